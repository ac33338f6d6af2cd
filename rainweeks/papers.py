"""Papers: tables of standings that show that no match is ever lost."""

from rainweeks.deciding import fails, first_standing, standings, steps_from
from rainweeks.kinds import is_integer_from, is_number


def paper(week, rule, measure):
    """Some paper, or None if a match can be lost."""
    if fails(week, rule, measure):
        return None
    return standings(week, rule, measure)


def paper_holds(week, rule, measure, value):
    """Whether any value is a paper."""
    if not isinstance(value, tuple) or not all([_is_standing(week, rule, measure, thing) for thing in value]):
        return False
    there = {standing: True for standing in value}
    if len(there) != len(value) or first_standing(measure) not in there:
        return False
    return all([_stays_within(week, rule, measure, standing, there) for standing in value])


def _stays_within(week, rule, measure, standing, there):
    """Whether no match is lost from a standing, and all standings behind it are there."""
    steps = steps_from(week, rule, measure, standing)
    return all([len(lost) == 0 and behind in there for _, _, lost, behind in steps])


def _is_standing(week, rule, measure, value):
    """Whether any value has the form of a standing, be it one that never comes."""
    if not isinstance(value, tuple) or len(value) != 3:
        return False
    today, waiting, last_rain = value
    if not is_number(today) or today >= week.days:
        return False
    return _is_waiting(week, rule, today, waiting) and _is_last_rain(measure, last_rain)


def _is_waiting(week, rule, today, value):
    """Whether any value is an ascending tuple of waits, no two of the same match and own day."""
    if not isinstance(value, tuple) or not all([_is_wait(week, rule, today, thing) for thing in value]):
        return False
    own = [(days_ago, match) for _, days_ago, match in value]
    return list(value) == sorted(value) and len(set(own)) == len(own)


def _is_wait(week, rule, today, value):
    """Whether any value is a triple of a match that can wait on this day of the week."""
    if not isinstance(value, tuple) or len(value) != 3:
        return False
    days_ahead, days_ago, match = value
    if not is_number(days_ahead) or not is_integer_from(days_ago, 1) or days_ahead + days_ago > rule.window:
        return False
    return is_number(match) and match in week.on(today - days_ago)


def _is_last_rain(measure, value):
    """Whether any value is the tuple of the last days of some rain that keeps the measure."""
    if not isinstance(value, tuple) or len(value) != measure.span - 1:
        return False
    return all([isinstance(thing, bool) for thing in value]) and measure.lets(value)
