"""Mending: with which windows, days and measures a rule loses no match."""

from rainweeks.deciding import fails
from rainweeks.rains import Measure

WIDEST_WINDOW = 6
WETTEST = 2


def least_window(week, rule, measure):
    """The least window with which the rule does not fail, or None."""
    for window in range(1, WIDEST_WINDOW + 1):
        if not fails(week, rule.but(window=window), measure):
            return window
    return None


def spare_days(week, rule, measure):
    """All days of let that the week has, without which, each alone, the rule does not fail."""
    # A rule that fails has none, whatever fewer days would do to it.
    if fails(week, rule, measure):
        return ()
    return tuple([day for day in rule.let if day < week.days and not fails(week, _without(rule, day), measure)])


def wettest(week, rule, span):
    """The greatest number of rainy days in any span of days by which the rule does not fail."""
    most = min(span, WETTEST)
    while fails(week, rule, Measure(most, span)):
        most -= 1
    return most


def _without(rule, day):
    """The rule with one day fewer that is let."""
    return rule.but(let=[other for other in rule.let if other != day])
