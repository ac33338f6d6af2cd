"""A second player of seasons, written from the document alone, for tests to compare with.

It keeps a calendar of all matches of all weeks, and knows of standings only what a
whole season from day 0 on shows.
"""

import itertools


def keeps(most, span, rain):
    """Whether rain has at most so many rainy days in any span of days."""
    padded = [False] * span + list(rain)
    return all(sum(padded[at : at + span]) <= most for at in range(len(padded) - span + 1))


def all_rain(measure, length):
    """All rain of a length that keeps the measure."""
    for rain in itertools.product((False, True), repeat=length):
        if keeps(measure.most, measure.span, rain):
            yield rain


def season(week, rule, rain):
    """What was played, what was lost and what waits, as three tuples."""
    calendar, played, lost = fresh_calendar(week, rule, len(rain)), [], []
    for day, is_rainy in enumerate(rain):
        done, gone = one_day(week, rule, calendar, day, is_rainy)
        played.append(done)
        lost.extend((day, *key) for key in gone)
    put = [(there, own, match) for (own, match), there in calendar.items() if own < len(rain)]
    return tuple(played), tuple(sorted(lost)), tuple(sorted(put))


def one_day(week, rule, calendar, day, is_rainy):
    """Plays a day of a calendar: what is played on it and what is lost, ascending."""
    due = sorted(key for key, there in calendar.items() if there == day)
    for key in due:
        del calendar[key]
    if not is_rainy:
        return tuple(due), []
    in_turn = due if rule.order == "first" else reversed(due)
    return (), sorted([key for key in in_turn if not put_off(week, rule, calendar, day, key)])


def fresh_calendar(week, rule, length):
    """The days of all matches whose own day can matter, by (own day, match)."""
    days = range(length + rule.window + rule.gap + week.days)
    pairs = [(day, match) for day in days for match in range(len(week.matches))]
    return {(day, match): day for day, match in pairs if week.matches[match][0] == day % week.days}


def put_off(week, rule, calendar, day, key):
    """Puts one match that is in no calendar into it, behind a rainy day; whether there was a day."""
    own, match = key
    sides = set(week.matches[match][1:])
    busy = [there for (_, other), there in calendar.items() if sides & set(week.matches[other][1:])]
    for later in range(day + 1, own + rule.window + 1):
        if later % week.days in rule.let and all(abs(later - there) >= rule.gap for there in busy):
            calendar[key] = later
            return True
    return False


def standing(week, rule, measure, rain):
    """The standing behind a rain."""
    _, _, waiting = season(week, rule, rain)
    day = len(rain)
    relative = tuple(sorted((there - day, day - own, match) for there, own, match in waiting))
    padded = (False,) * measure.span + tuple(rain)
    return day % week.days, relative, padded[len(padded) - (measure.span - 1) :]


def walk(week, rule, measure):
    """All standings, each with a shortest rain that leads to it."""
    found = {standing(week, rule, measure, ()): ()}
    queue = [()]
    while queue:
        rain = queue.pop(0)
        for longer in ((*rain, False), (*rain, True)):
            if keeps(measure.most, measure.span, longer):
                there = standing(week, rule, measure, longer)
                if there not in found:
                    found[there] = longer
                    queue.append(longer)
    return found


def behind(week, rule, standing, is_rainy):
    """What is lost on one day from any standing, even from one that never comes, and the standing behind it."""
    today, waiting, last_rain = standing
    day = today + week.days * rule.window
    calendar = {key: there for key, there in fresh_calendar(week, rule, day).items() if key[0] >= day}
    calendar.update({(day - ago, match): day + ahead for ahead, ago, match in waiting})
    _, lost = one_day(week, rule, calendar, day, is_rainy)
    put = sorted((there - day - 1, day + 1 - own, match) for (own, match), there in calendar.items() if own <= day)
    return lost, ((today + 1) % week.days, tuple(put), (*last_rain, is_rainy)[1:])


def steps(week, rule, measure, standing):
    """What is lost and the standing behind, for each day that the measure lets."""
    weathers = [is_rainy for is_rainy in (False, True) if keeps(measure.most, measure.span, (*standing[2], is_rainy))]
    return [behind(week, rule, standing, is_rainy) for is_rainy in weathers]


def loses(week, rule, measure):
    """Whether a match can be lost."""
    days = [day for there in walk(week, rule, measure) for day in steps(week, rule, measure, there)]
    return any(lost for lost, _ in days)


def closed(week, rule, measure, standings):
    """Those of some standings from which no match is lost, whatever comes, and no other one is reached."""
    after = {standing: steps(week, rule, measure, standing) for standing in standings}
    while True:
        kept = {there: rows for there, rows in after.items() if all(not lost and to in after for lost, to in rows)}
        if len(kept) == len(after):
            return list(kept)
        after = kept


def of_the_form(week, rule, measure):
    """All standings of the form that a paper may contain, whether they ever come or not."""
    rains = list(all_rain(measure, measure.span - 1))
    for day in range(week.days):
        own = [(ago, match) for ago in range(1, rule.window + 1) for match in range(len(week.matches))]
        fitting = [(ago, match) for ago, match in own if (day - ago) % week.days == week.matches[match][0]]
        places = [[None, *((ahead, *pair) for ahead in range(rule.window - pair[0] + 1))] for pair in fitting]
        for waits in itertools.product(*places):
            for rain in rains:
                yield day, tuple(sorted(wait for wait in waits if wait is not None)), rain


def late_days(one, other):
    """The days on which the other of two played seasons plays a match that the one has not played by then."""
    done = {pair: day for day, row in enumerate(one) for pair in row}
    return [day for day, row in enumerate(other) for pair in row if done.get(pair, len(other)) > day]
