"""Deciding: what all rain that keeps a measure can do to a week.

A standing is all of the past that matters ahead of a day: a triple of the day of the
week, what waits (triples: in how many days, how many days ago its own day was, match),
and the last rain. There are finitely many, and all rain is a way through them.
"""

from rainweeks.plays import play_day


def fails(week, rule, measure):
    """Whether a match is lost for some rain."""
    return losing(week, rule, measure) is not None


def losing(week, rule, measure):
    """Some shortest rain on whose last day a match is lost, or None."""
    came = _ways(week, rule, measure)
    for standing in came:
        for is_rainy, lost, _ in steps_from(week, rule, measure, standing):
            if lost:
                return (*_rain_to(came, standing), is_rainy)
    return None


def latest(week, rule, measure):
    """The greatest number of days behind its own day on which a match is played."""
    # Any day can be dry: each match that waits for a day is played on it by some rain.
    waits = [wait for _, waiting, _ in standings(week, rule, measure) for wait in waiting]
    return max([days_ahead + days_ago for days_ahead, days_ago, _ in waits], default=0)


def most_waiting(week, rule, measure):
    """The greatest number of matches that are put off to a day still to come, behind some day."""
    return max([len(waiting) for _, waiting, _ in standings(week, rule, measure)])


def standings(week, rule, measure):
    """All standings that there can be ahead of a day, ascending."""
    return tuple(sorted(_ways(week, rule, measure)))


def first_standing(measure):
    """The standing ahead of day 0."""
    return (0, (), (False,) * (measure.span - 1))


def steps_from(week, rule, measure, standing):
    """What one day more can do: triples (is_rainy, lost, standing behind), the dry day first."""
    _, _, last_rain = standing
    steps = []
    for is_rainy in (False, True):
        if measure.lets((*last_rain, is_rainy)):
            lost, behind = _step(week, rule, standing, is_rainy)
            steps.append((is_rainy, lost, behind))
    return steps


def _step(week, rule, standing, is_rainy):
    """What is lost on the day ahead of which the standing is, and the standing behind it."""
    today, waiting, last_rain = standing
    there = [(today + days_ahead, today - days_ago, match) for days_ahead, days_ago, match in waiting]
    _, lost, waits = play_day(week, rule, today, there, is_rainy)
    tomorrow = today + 1
    behind = sorted([(to - tomorrow, tomorrow - own_day, match) for to, own_day, match in waits])
    rain = (*last_rain, is_rainy)
    return lost, (tomorrow % week.days, tuple(behind), rain[1:])


def _ways(week, rule, measure):
    """Each standing that there can be, those nearer to day 0 first, with (standing, is_rainy) of the day ahead."""
    first = first_standing(measure)
    came = {first: None}
    layer = [first]
    while layer:
        next_layer = []
        for standing in layer:
            for is_rainy, _, behind in steps_from(week, rule, measure, standing):
                if behind not in came:
                    came[behind] = (standing, is_rainy)
                    next_layer.append(behind)
        layer = next_layer
    return came


def _rain_to(came, standing):
    """The rain by which a standing was first reached."""
    rain = []
    while came[standing] is not None:
        standing, is_rainy = came[standing]
        rain.append(is_rainy)
    return tuple(rain[::-1])
