"""Weeks, rules and measures of many kinds, for tests that compare with the model."""

import itertools

from rainweeks.rains import Measure
from rainweeks.rules import Rule
from rainweeks.weeks import Week

WEEK = Week(4, [(0, "ann", "bob"), (2, "ann", "cyd")])
RULE = Rule(2, 4, (1, 3))
WET = Measure(1, 3)

WEEKS = [
    WEEK,
    Week(1, ()),
    Week(3, ()),
    Week(1, [(0, "a", "b")]),
    Week(2, [(0, "a", "b")]),
    Week(2, [(1, "a", "b"), (1, "c", "d")]),
    Week(3, [(0, "a", "b"), (1, "c", "b"), (0, "c", "d")]),
    Week(4, [(1, "a", "b"), (0, "c", "a"), (3, "b", "c"), (2, "d", "a")]),
    Week(5, [(0, "a", "b"), (3, "b", "c")]),
    Week(5, [(4, "a", "b"), (0, "b", "a"), (4, "c", "d"), (1, "d", "a")]),
    Week(5, [(0, "a", "b"), (0, "c", "d"), (1, "a", "c"), (1, "b", "d")]),
]
LETS = [(), (0,), (1, 3), (0, 1, 2, 3, 4), (2, 4, 7)]
MEASURES = [Measure(0, 1), Measure(1, 1), Measure(1, 2), Measure(2, 2), Measure(1, 3), Measure(2, 3), Measure(2, 4)]


def rules(windows):
    """Rules of both gaps, with these windows, many days that are let, and both orders by turns."""
    orders = itertools.cycle(["first", "last", "last"])
    for gap, window, let in itertools.product((1, 2), windows, LETS):
        yield Rule(gap, window, let, next(orders))
