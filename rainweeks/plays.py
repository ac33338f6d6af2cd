"""Plays: a season day by day, with what is put off for rain."""

from rainweeks.rains import as_rain


class Played:
    """What was played on each day, what was lost, and what waits behind the last day."""

    def __init__(self, played, lost, waiting):
        self.played = played
        self.lost = lost
        self.waiting = waiting

    def __eq__(self, other):
        return (
            isinstance(other, Played)
            and self.played == other.played
            and self.lost == other.lost
            and self.waiting == other.waiting
        )


def play(week, rule, rain):
    """The season from day 0 on, through the days of the rain."""
    played, lost, waiting = [], [], ()
    for day, is_rainy in enumerate(as_rain(rain)):
        done, gone, waiting = play_day(week, rule, day, waiting, is_rainy)
        played.append(done)
        lost.extend(gone)
    return Played(tuple(played), tuple(lost), waiting)


def play_day(week, rule, day, waiting, is_rainy):
    """What is played on a day, what is lost on it, and what waits behind it.

    What waits and what is lost are triples (day, own day, match), ascending where
    they are returned; own days may be those of a week ahead of day 0.
    """
    put_here = [(own_day, match) for to, own_day, match in waiting if to == day]
    due = sorted([(day, match) for match in week.on(day)] + put_here)
    later = sorted([wait for wait in waiting if wait[0] > day])
    if not is_rainy:
        return tuple(due), (), tuple(later)
    lost, waits = _put_off(week, rule, day, due, later)
    return (), lost, waits


def _put_off(week, rule, day, due, waiting):
    """What is lost of all that is due on a rainy day, and what waits behind this day."""
    in_turn = due if rule.order == "first" else due[::-1]
    lost, waits = [], list(waiting)
    for own_day, match in in_turn:
        to = _new_day(week, rule, day, (own_day, match), waits)
        if to is None:
            lost.append((day, own_day, match))
        else:
            waits.append((to, own_day, match))
    return tuple(sorted(lost)), tuple(sorted(waits))


def _new_day(week, rule, day, due, waiting):
    """The day to which a match that is due on a rainy day is put off, or None."""
    own_day, match = due
    for to in range(day + 1, own_day + rule.window + 1):
        if to % week.days in rule.let and not _is_barred(week, match, _matches_near(week, rule, day, to, waiting)):
            return to
    return None


def _matches_near(week, rule, day, to, waiting):
    """The matches behind a rainy day that stand, or wait, less than the gap away from a later day."""
    near = range(max(day + 1, to - rule.gap + 1), to + rule.gap)
    own = [match for later in near for match in week.on(later)]
    return own + [match for later, _, match in waiting if later in near]


def _is_barred(week, match, others):
    """Whether one of the other matches has a side of this one."""
    _, *sides = week.matches[match]
    return any([side in sides for other in others for side in week.matches[other][1:]])
