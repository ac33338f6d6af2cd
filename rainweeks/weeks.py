"""Weeks: which matches stand on which day of a week that is repeated for ever."""

from rainweeks.errors import InvalidText, InvalidWeek
from rainweeks.kinds import is_integer_from, is_name, is_number, is_numeral, is_sequence


class Week:
    """A week of so many days, with its matches (day, side, side)."""

    def __init__(self, days, matches):
        if not is_integer_from(days, 1):
            raise InvalidWeek("days")
        if not _are_matches(matches, days):
            raise InvalidWeek("matches")
        self.days = days
        self.matches = tuple(matches)

    @property
    def sides(self):
        """All sides, ascending, each once."""
        names = [side for _, one, other in self.matches for side in (one, other)]
        return tuple(sorted(set(names)))

    def on(self, day):
        """The numbers of the matches that stand on this day of all days."""
        own_day = day % self.days
        return tuple([at for at, match in enumerate(self.matches) if match[0] == own_day])

    @classmethod
    def read(cls, text):
        """The week with this text."""
        lines = text.split("\n")
        for at, line in enumerate(lines):
            if not _is_line(line, at):
                raise InvalidText(at)
        rows = [line.split(" ") for line in lines]
        return cls(int(rows[0][1]), [(int(day), one, other) for day, one, other in rows[1:]])

    def __len__(self):
        return len(self.matches)

    def __eq__(self, other):
        # The same days and matches make the same text, and no others do.
        return isinstance(other, Week) and self.days == other.days and self.matches == other.matches

    def __str__(self):
        lines = [f"{day} {one} {other}" for day, one, other in self.matches]
        return "\n".join([f"week {self.days}", *lines])


def _are_matches(value, days):
    """Whether any value is a sequence of matches of a week with so many days."""
    if not is_sequence(value) or not all([_is_match(thing, days) for thing in value]):
        return False
    # A match of a side with itself gives the same pair twice, as two matches on one day do.
    places = [(day, side) for day, one, other in value for side in (one, other)]
    return len(set(places)) == len(places)


def _is_match(value, days):
    """Whether any value is a day below days and two names, be they alike or not."""
    if not isinstance(value, tuple) or len(value) != 3:
        return False
    return is_number(value[0]) and value[0] < days and is_name(value[1]) and is_name(value[2])


def _is_line(line, at):
    """Whether a line has the form of line number at in the text of a week."""
    words = line.split(" ")
    if at == 0:
        return len(words) == 2 and words[0] == "week" and is_numeral(words[1])
    return len(words) == 3 and is_numeral(words[0]) and is_name(words[1]) and is_name(words[2])
