"""Fewer: whether one rainy day fewer can make a match later."""

from rainweeks.races import START, race_step
from rainweeks.steps import days_let, first_rain
from rainweeks.ways import search


def perverse(week, rule, measure):
    """Whether some match is played by some rain that is not played by then with one rainy day dry."""
    return perverse_rain(week, rule, measure) is not None


def perverse_rain(week, rule, measure):
    """Some pair (a shortest rain on whose last day this happens, the day that is dry), or None."""
    first = (0, START, False, first_rain(measure))
    _, marks = search(first, lambda state: _steps(week, rule, measure, state))
    if marks is None:
        return None
    dried = [is_dried for _, is_dried in marks]
    return tuple([is_rainy for is_rainy, _ in marks]), dried.index(True)


def _steps(week, rule, measure, state):
    """The steps from a race of the drier season with the wetter one, marked (is_rainy, whether it is dried).

    Until a rainy day is dried the two are the same season.
    """
    today, race, has_dried, last_rain = state
    steps = []
    for is_rainy, rain in days_let(measure, last_rain):
        for is_dried in (False, True) if is_rainy and not has_dried else (False,):
            drier = (rule, is_rainy and not is_dried)
            is_late, behind = race_step(week, today, race, drier, (rule, is_rainy))
            state_behind = ((today + 1) % week.days, behind, has_dried or is_dried, rain)
            steps.append(((is_rainy, is_dried), is_late, state_behind))
    return steps
