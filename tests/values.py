"""Any values, as the document means them, for the tests of wrong arguments."""

from rainweeks import errors
from rainweeks.desk import Desk
from rainweeks.live import Live
from rainweeks.plays import play
from rainweeks.rains import Measure
from rainweeks.rules import Rule
from rainweeks.weeks import Week


def nested(value, depth):
    """The value in so many lists and tuples, by turns."""
    for level in range(depth):
        value = [value] if level & 1 else (value,)
    return value


def objects():
    """Objects of the package."""
    return [
        Week(4, [(0, "ann", "bob")]),
        Week(1, ()),
        Rule(1, 4, (1, 3)),
        Measure(1, 3),
        play(Week(1, ()), Rule(1, 4, ()), [True]),
        Live(Week(1, ()), Rule(1, 4, ())),
        Desk(),
        errors.RainError(),
        errors.InvalidWeek("days"),
        errors.InvalidCommand(),
    ]


def sequences():
    """Lists and tuples of any values, none of them of matches or numbers alone."""
    things = [-1, True, None, "ab", [], (), (0, "ann"), [[0, "ann", "bob"]]]
    things += [nested(0, 7), nested([], 7), *objects()]
    return [[thing] for thing in things] + [(thing,) for thing in things]


def no_integers():
    """Any values that are no integers."""
    texts = ["", "0", "1", "2", "first", "days", "week 1"]
    return [True, False, None, *texts, [], (), [1], (1,), *sequences(), *objects()]


def no_sequences():
    """Any values that are no sequences."""
    texts = ["", "ab", "012"]
    return [True, False, None, -1, 0, 1, 10**30, *texts, *objects()]


def no_numbers():
    """Any values that are no numbers."""
    return [-1, -(10**30), *no_integers()]


def no_bools():
    """Any values that are no bools."""
    return [thing for thing in no_numbers() if not isinstance(thing, bool)] + [0, 1, 2, 10**30]


def no_names():
    """Any values that are no names."""
    texts = ["", "abcde", "Ann", "anN", "a1", "1", "a b", " ", "a ", " a", "a\n", "a-b", "`", "{", "@", "_"]
    texts += ["\u00e9", "\u00e4nn"]
    others = [True, False, None, 0, 1, [], (), ["a"], ("ann",), ["a", "b"], *sequences(), *objects()]
    return texts + others
