"""Comparing: what two rules do to a week, for all rain that keeps a measure."""

from rainweeks.races import START, race_step
from rainweeks.steps import days_let, first_rain, step
from rainweeks.ways import search


def alike(week, p, q, measure):
    """Whether the same is played and the same is lost by both rules, for all rain."""
    return parting(week, p, q, measure) is None


def parting(week, p, q, measure):
    """Some shortest rain for which not the same is played or lost by both rules, or None."""
    first = (0, (), (), first_rain(measure))
    _, rain = search(first, lambda pair: _pair_steps(week, p, q, measure, pair))
    return rain


def order_counts(week, rule, measure):
    """Whether it counts in which order the rule puts matches off."""
    return not alike(week, rule.but(order="first"), rule.but(order="last"), measure)


def never_later(week, p, q, measure):
    """Whether each match that q plays is played by p, too, and no later, for all rain."""
    return later(week, p, q, measure) is None


def later(week, p, q, measure):
    """Some shortest rain on whose last day q plays a match that p has not played by then, or None."""
    first = (0, START, first_rain(measure))
    _, rain = search(first, lambda state: _race_steps(week, p, q, measure, state))
    return rain


def _pair_steps(week, p, q, measure, pair):
    """The steps from what waits by p and by q, for a search that ends where not the same is done."""
    today, p_waiting, q_waiting, last_rain = pair
    steps = []
    for is_rainy, rain in days_let(measure, last_rain):
        p_played, p_lost, p_behind = step(week, p, today, p_waiting, is_rainy)
        q_played, q_lost, q_behind = step(week, q, today, q_waiting, is_rainy)
        is_unlike = p_played != q_played or p_lost != q_lost
        steps.append((is_rainy, is_unlike, ((today + 1) % week.days, p_behind, q_behind, rain)))
    return steps


def _race_steps(week, p, q, measure, state):
    """The steps from a race of p and q, for a search that ends where p is later."""
    today, race, last_rain = state
    steps = []
    for is_rainy, rain in days_let(measure, last_rain):
        is_late, behind = race_step(week, today, race, (p, is_rainy), (q, is_rainy))
        steps.append((is_rainy, is_late, ((today + 1) % week.days, behind, rain)))
    return steps
