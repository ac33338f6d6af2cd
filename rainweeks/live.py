"""Live: a season that is led day by day, and can be taken back."""

from rainweeks.errors import InvalidRain, Refused
from rainweeks.plays import play_day
from rainweeks.rains import as_rain


class Live:
    """A season that goes on from day 0."""

    def __init__(self, week, rule):
        self.week = week
        self.rule = rule
        self.rain = ()
        self.played = ()
        self.lost = ()
        self.waiting = ()
        # How the season was ahead of each deed that can be taken back.
        self._past = ()

    def day(self, is_rainy):
        """Plays the next day, and returns what was played on it."""
        if not isinstance(is_rainy, bool):
            raise InvalidRain(len(self.rain))
        self._begin_deed()
        return self._play(is_rainy)

    def several(self, rain):
        """Plays the days of some rain, or none, and returns what was played on each."""
        try:
            days = as_rain(rain)
        except InvalidRain as error:
            raise Refused(error.at) from None
        self._begin_deed()
        done = []
        for is_rainy in days:
            done.append(self._play(is_rainy))
        return tuple(done)

    def change(self, rule):
        """Takes another rule from the next day on; what waits stays where it is."""
        self._begin_deed()
        self.rule = rule

    def undo(self):
        """Takes back the last deed, and returns whether there was one."""
        if len(self._past) == 0:
            return False
        self.rule, self.rain, self.played, self.lost, self.waiting = self._past[-1]
        self._past = self._past[:-1]
        return True

    def within(self, work):
        """What work returns for this live season, which then is as it was ahead."""
        past, rule, rain = self._past, self.rule, self.rain
        played, lost, waiting = self.played, self.lost, self.waiting
        try:
            return work(self)
        finally:
            self._past, self.rule, self.rain = past, rule, rain
            self.played, self.lost, self.waiting = played, lost, waiting

    def _begin_deed(self):
        """Keeps how the season is, so that what is done now can be taken back."""
        self._past = (*self._past, (self.rule, self.rain, self.played, self.lost, self.waiting))

    def _play(self, is_rainy):
        """Plays the next day, and returns what was played on it."""
        played, lost, waiting = play_day(self.week, self.rule, len(self.rain), self.waiting, is_rainy)
        self.rain = (*self.rain, is_rainy)
        self.played = (*self.played, played)
        self.lost = self.lost + lost
        self.waiting = waiting
        return played

    def __len__(self):
        return len(self._past)
