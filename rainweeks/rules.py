"""Rules: to which day a match is put off."""

from rainweeks.errors import InvalidRule
from rainweeks.kinds import is_integer_from, is_number, is_sequence

ORDERS = ("first", "last")


class Rule:
    """A rule: the gap between matches, the window, the days that are let, the order."""

    def __init__(self, gap, window, let, order="first"):
        if not is_integer_from(gap, 1) or gap > 2:
            raise InvalidRule("gap")
        if not is_integer_from(window, 1):
            raise InvalidRule("window")
        if not is_sequence(let) or not all([is_number(day) for day in let]):
            raise InvalidRule("let")
        if order not in ORDERS:
            raise InvalidRule("order")
        self.gap = gap
        self.window = window
        self.let = tuple(sorted(set(let)))
        self.order = order

    def but(self, gap=None, window=None, let=None, order=None):
        """This rule with the given arguments in the place of its own."""
        return Rule(
            self.gap if gap is None else gap,
            self.window if window is None else window,
            self.let if let is None else let,
            self.order if order is None else order,
        )

    def __eq__(self, other):
        # The same four attributes make the same text, and no others do.
        return (
            isinstance(other, Rule)
            and self.gap == other.gap
            and self.window == other.window
            and self.let == other.let
            and self.order == other.order
        )

    def __str__(self):
        days = [str(day) for day in self.let]
        return " ".join([f"gap {self.gap} window {self.window} let", *days, f"order {self.order}"])
