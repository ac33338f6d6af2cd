"""Desk: a live season that is led by commands."""

from rainweeks.errors import InvalidCommand
from rainweeks.kinds import is_numeral
from rainweeks.live import Live
from rainweeks.rules import Rule
from rainweeks.weeks import Week

FIRST_GAP = 1
FIRST_WINDOW = 6
SETTINGS = ("gap", "window")
PLAIN = ("dry", "wet", "waits", "lost", "undo")


class Desk:
    """A desk, which keeps one live season, at first none."""

    def __init__(self):
        self.live = None

    def say(self, command):
        """Does a command, and returns what there is to say."""
        words = _words(command)
        if words[0] == "season":
            return self._season(" ".join(words[1:]))
        if self.live is None:
            raise InvalidCommand()
        if words[0] in SETTINGS:
            return self._change(words[0], int(words[1]))
        if words[0] in ("dry", "wet"):
            return str(len(self.live.day(words[0] == "wet")))
        if words[0] == "undo":
            return "undone" if self.live.undo() else "nothing"
        return str(len(self.live.waiting if words[0] == "waits" else self.live.lost))

    def _season(self, text):
        """Begins a new live season in the place of the one that there was."""
        week = Week.read(text.replace(" ; ", "\n"))
        self.live = Live(week, Rule(FIRST_GAP, FIRST_WINDOW, list(range(week.days))))
        return str(len(week))

    def _change(self, setting, number):
        """Changes the gap or the window of the live season."""
        rule = self.live.rule
        self.live.change(rule.but(gap=number) if setting == "gap" else rule.but(window=number))
        return "ok"


def _words(command):
    """The words of any value, if it is a command of one of the forms."""
    if not isinstance(command, str) or "\n" in command:
        raise InvalidCommand()
    words = command.split(" ")
    if "" in words or not _is_form(words):
        raise InvalidCommand()
    return words


def _is_form(words):
    """Whether words are a command of one of the forms."""
    if words[0] == "season":
        return len(words) > 1
    if words[0] in SETTINGS:
        return len(words) == 2 and is_numeral(words[1])
    return len(words) == 1 and words[0] in PLAIN
