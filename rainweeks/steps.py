"""Steps: what one day does, with all days counted from it, so that standings can be compared."""

from rainweeks.plays import play_day


def first_rain(measure):
    """The last rain ahead of day 0."""
    return (False,) * (measure.span - 1)


def days_let(measure, last_rain):
    """What one day more can be: pairs (is_rainy, last rain behind it), the dry day first."""
    rains = [(*last_rain, is_rainy) for is_rainy in (False, True)]
    return [(rain[-1], rain[1:]) for rain in rains if measure.lets(rain)]


def step(week, rule, today, waiting, is_rainy):
    """What is played on a day, what is lost on it, and what waits behind it.

    today is the day of the week. What waits are triples as in standings, ahead of this
    day and ahead of the next one. What is played and what is lost are pairs (how many
    days ago its own day was, match), the earliest own day first.
    """
    there = [(today + days_ahead, today - days_ago, match) for days_ahead, days_ago, match in waiting]
    played, lost, waits = play_day(week, rule, today, there, is_rainy)
    tomorrow = today + 1
    behind = sorted([(to - tomorrow, tomorrow - own_day, match) for to, own_day, match in waits])
    return (
        tuple([(today - own_day, match) for own_day, match in played]),
        tuple([(today - own_day, match) for _, own_day, match in lost]),
        tuple(behind),
    )
