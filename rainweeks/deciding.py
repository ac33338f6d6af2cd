"""Deciding: what all rain that keeps a measure can do to a week.

A standing is all of the past that matters ahead of a day: a triple of the day of the
week, what waits (triples: in how many days, how many days ago its own day was, match),
and the last rain. There are finitely many, and all rain is a way through them.
"""

from rainweeks.steps import days_let, first_rain, step
from rainweeks.ways import search


def fails(week, rule, measure):
    """Whether a match is lost for some rain."""
    return losing(week, rule, measure) is not None


def losing(week, rule, measure):
    """Some shortest rain on whose last day a match is lost, or None."""
    _, rain = search(first_standing(measure), lambda standing: _steps_to_a_loss(week, rule, measure, standing))
    return rain


def latest(week, rule, measure):
    """The greatest number of days behind its own day on which a match is played."""
    # Any day can be dry: each match that waits for a day is played on it by some rain.
    waits = [wait for _, waiting, _ in standings(week, rule, measure) for wait in waiting]
    return max([days_ahead + days_ago for days_ahead, days_ago, _ in waits], default=0)


def most_waiting(week, rule, measure):
    """The greatest number of matches that are put off to a day still to come, behind some day."""
    return max([len(waiting) for _, waiting, _ in standings(week, rule, measure)])


def standings(week, rule, measure):
    """All standings that there can be ahead of a day, ascending."""
    came, _ = search(first_standing(measure), lambda standing: _steps_through(week, rule, measure, standing))
    return tuple(sorted(came))


def first_standing(measure):
    """The standing ahead of day 0."""
    return (0, (), first_rain(measure))


def steps_from(week, rule, measure, standing):
    """What one day more can do: tuples (is_rainy, played, lost, standing behind), the dry day first.

    What is played and what is lost are pairs (how many days ago its own day was, match).
    """
    today, waiting, last_rain = standing
    steps = []
    for is_rainy, rain in days_let(measure, last_rain):
        played, lost, waits = step(week, rule, today, waiting, is_rainy)
        steps.append((is_rainy, played, lost, ((today + 1) % week.days, waits, rain)))
    return steps


def _steps_to_a_loss(week, rule, measure, standing):
    """The steps from a standing, for a search that ends where a match is lost."""
    steps = steps_from(week, rule, measure, standing)
    return [(is_rainy, len(lost) > 0, behind) for is_rainy, _, lost, behind in steps]


def _steps_through(week, rule, measure, standing):
    """The steps from a standing, for a search that goes on everywhere."""
    return [(is_rainy, False, behind) for is_rainy, _, _, behind in steps_from(week, rule, measure, standing)]
