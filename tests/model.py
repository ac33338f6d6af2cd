"""A second player of seasons, written from the document alone, for tests to compare with.

It keeps a calendar of all matches of all weeks, and knows of standings only what a
whole season from day 0 on shows.
"""

import itertools


def keeps(most, span, rain):
    """Whether rain has at most so many rainy days in any span of days."""
    padded = [False] * span + list(rain)
    return all(sum(padded[at : at + span]) <= most for at in range(len(padded) - span + 1))


def all_rain(measure, length):
    """All rain of a length that keeps the measure."""
    for rain in itertools.product((False, True), repeat=length):
        if keeps(measure.most, measure.span, rain):
            yield rain


def season(week, rule, rain):
    """What was played, what was lost and what waits, as three tuples."""
    calendar, played, lost = fresh_calendar(week, rule, len(rain)), [], []
    for day, is_rainy in enumerate(rain):
        due = sorted(key for key, there in calendar.items() if there == day)
        played.append(() if is_rainy else tuple(due))
        for key in due:
            del calendar[key]
        if is_rainy:
            for key in due if rule.order == "first" else reversed(due):
                if not put_off(week, rule, calendar, day, key):
                    lost.append((day, *key))
    put = [(there, own, match) for (own, match), there in calendar.items() if own < len(rain)]
    return tuple(played), tuple(sorted(lost)), tuple(sorted(put))


def fresh_calendar(week, rule, length):
    """The days of all matches whose own day can matter, by (own day, match)."""
    days = range(length + rule.window + rule.gap + week.days)
    pairs = [(day, match) for day in days for match in range(len(week.matches))]
    return {(day, match): day for day, match in pairs if week.matches[match][0] == day % week.days}


def put_off(week, rule, calendar, day, key):
    """Puts one match that is in no calendar into it, behind a rainy day; whether there was a day."""
    own, match = key
    sides = set(week.matches[match][1:])
    busy = [there for (_, other), there in calendar.items() if sides & set(week.matches[other][1:])]
    for later in range(day + 1, own + rule.window + 1):
        if later % week.days in rule.let and all(abs(later - there) >= rule.gap for there in busy):
            calendar[key] = later
            return True
    return False


def standing(week, rule, measure, rain):
    """The standing behind a rain."""
    _, _, waiting = season(week, rule, rain)
    day = len(rain)
    relative = tuple(sorted((there - day, day - own, match) for there, own, match in waiting))
    padded = (False,) * measure.span + tuple(rain)
    return day % week.days, relative, padded[len(padded) - (measure.span - 1) :]


def walk(week, rule, measure):
    """All standings, each with a shortest rain that leads to it."""
    found = {standing(week, rule, measure, ()): ()}
    queue = [()]
    while queue:
        rain = queue.pop(0)
        for longer in ((*rain, False), (*rain, True)):
            if keeps(measure.most, measure.span, longer):
                there = standing(week, rule, measure, longer)
                if there not in found:
                    found[there] = longer
                    queue.append(longer)
    return found
