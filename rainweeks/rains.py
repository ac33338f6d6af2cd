"""Rains: which days are rainy, and measures that rain keeps."""

from rainweeks.errors import InvalidMeasure, InvalidRain
from rainweeks.kinds import is_integer_from, is_number, is_sequence


class Measure:
    """A measure: at most so many rainy days in any span of days one behind the other."""

    def __init__(self, most, span):
        if not is_number(most):
            raise InvalidMeasure("most")
        if not is_integer_from(span, max(most, 1)):
            raise InvalidMeasure("span")
        self.most = most
        self.span = span

    def lets(self, rain):
        """Whether rain keeps this measure."""
        wet = [day for day, is_rainy in enumerate(as_rain(rain)) if is_rainy]
        # Each rainy day and the one so many further on must not fit into one span.
        return all([later - day >= self.span for day, later in zip(wet, wet[self.most:])])

    def __eq__(self, other):
        return isinstance(other, Measure) and self.most == other.most and self.span == other.span


def as_rain(value):
    """Any value as a tuple of bools, if it is rain."""
    if not is_sequence(value):
        raise InvalidRain(0)
    for at, thing in enumerate(value):
        if not isinstance(thing, bool):
            raise InvalidRain(at)
    return tuple(value)
