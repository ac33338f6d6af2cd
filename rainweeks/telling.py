"""Telling: which rain there was, from what was played."""

from rainweeks.deciding import first_standing, steps_from
from rainweeks.errors import InvalidSeen
from rainweeks.kinds import is_number, is_sequence


def fits(week, rule, measure, seen):
    """Whether some rain by the measure leads to just what was seen."""
    return all([len(layer) > 0 for layer in _layers(week, rule, measure, seen)])


def rains_of(week, rule, measure, seen):
    """All rain by the measure that leads to just what was seen, ascending."""
    ways = [((), first_standing(measure))]
    for layer in _layers(week, rule, measure, seen):
        ways = [((*rain, is_rainy), to) for rain, there in ways for is_rainy, to in layer.get(there, [])]
    return tuple(sorted([rain for rain, _ in ways]))


def surely(week, rule, measure, seen):
    """What is the same for each day in all such rain ("wet", "dry" or "open"), or None if there is none."""
    layers = _layers(week, rule, measure, seen)
    if not all([len(layer) > 0 for layer in layers]):
        return None
    return tuple([_weather(layer) for layer in layers])


def _layers(week, rule, measure, seen):
    """For each day the standings that are on some way to all that was seen.

    Each layer is a dict from the standings ahead of the day to their steps on such ways:
    pairs (is_rainy, standing behind).
    """
    layers, here, known = [], {first_standing(measure): True}, {}
    for day, pairs in enumerate(_as_seen(seen)):
        wanted = tuple([(day - own_day, match) for own_day, match in pairs])
        layer = {}
        for there in here:
            if there not in known:
                known[there] = steps_from(week, rule, measure, there)
            layer[there] = [(is_rainy, behind) for is_rainy, played, _, behind in known[there] if played == wanted]
        layers.append(layer)
        here = {behind: True for steps in layer.values() for _, behind in steps}
    return _that_lead_on(layers, here)


def _that_lead_on(layers, ends):
    """The layers with only those steps from which an end can be reached."""
    kept, ahead = [], ends
    for layer in reversed(layers):
        ahead = _with_steps_into(layer, ahead)
        kept.append(ahead)
    return kept[::-1]


def _with_steps_into(layer, ahead):
    """A layer with only those steps that lead to a standing of the next one."""
    kept = {}
    for there, steps in layer.items():
        leading = [(is_rainy, behind) for is_rainy, behind in steps if behind in ahead]
        if leading:
            kept[there] = leading
    return kept


def _weather(layer):
    """What all steps of a layer have in common."""
    weathers = sorted({is_rainy for steps in layer.values() for is_rainy, _ in steps})
    if len(weathers) > 1:
        return "open"
    return "wet" if weathers[0] else "dry"


def _as_seen(value):
    """Any value, if it has the form of what was seen."""
    if not is_sequence(value):
        raise InvalidSeen(0)
    for at, thing in enumerate(value):
        if not _is_day(thing):
            raise InvalidSeen(at)
    return value


def _is_day(value):
    """Whether any value is an ascending tuple of unlike pairs of two numbers."""
    if not isinstance(value, tuple) or not all([_is_pair(thing) for thing in value]):
        return False
    return all([pair < after for pair, after in zip(value, value[1:])])


def _is_pair(value):
    """Whether any value is a pair of two numbers."""
    return isinstance(value, tuple) and len(value) == 2 and is_number(value[0]) and is_number(value[1])
