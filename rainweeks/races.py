"""Races: two seasons side by side, and whether one plays a match that the other has not played by then.

A race is a triple: what waits in the one season, what waits in the other one (both as
in standings), and what the one has lost of that which waits in the other, as pairs
(how many days ago its own day was, match).
"""

from rainweeks.steps import step

START = ((), (), ())


def race_step(week, today, race, one, other):
    """Whether on a day the other season plays what the one has not played by then, and the race behind it.

    one and other are pairs (rule, is_rainy) for this day.
    """
    one_waiting, other_waiting, missed = race
    one_rule, one_is_rainy = one
    other_rule, other_is_rainy = other
    _, lost, one_behind = step(week, one_rule, today, one_waiting, one_is_rainy)
    played, _, other_behind = step(week, other_rule, today, other_waiting, other_is_rainy)
    never = [*missed, *lost]
    not_yet = _own_days(one_behind)
    is_late = any([pair in never or pair in not_yet for pair in played])
    waits = _own_days(other_behind)
    missed_behind = sorted([(days_ago + 1, match) for days_ago, match in never if (days_ago, match) in waits])
    return is_late, (one_behind, other_behind, tuple(missed_behind))


def _own_days(behind):
    """What waits behind a day as pairs (how many days ago its own day was, match), counted from this day."""
    return [(days_ago - 1, match) for _, days_ago, match in behind]
