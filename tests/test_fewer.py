"""Tests of [14], one rainy day fewer, and of what [1] to [3] say of it."""

import itertools
import unittest

from rainweeks.fewer import perverse, perverse_rain
from rainweeks.plays import play
from rainweeks.rains import Measure
from rainweeks.rules import Rule
from rainweeks.weeks import Week
from tests.cases import MEASURES, RULE, WEEK, WEEKS, WET, rules
from tests.model import all_rain, keeps, late_days, season

DRY = False
ALL = (0, 1, 2, 3, 4)
# By rain on days 0 to 2 match 2 keeps day 3 from match 1, so that match 0 gets it.
CHAIN = Week(4, [(2, "c", "d"), (1, "d", "a"), (0, "b", "a")])
ONLY = Rule(1, 6, (3,))


def told(week, rule, measure):
    return f"{week} / {rule} / {measure.most} in {measure.span}"


def with_one_dry(rain):
    """All pairs (rainy day of a rain, the rain with this day dry)."""
    return [(day, (*rain[:day], DRY, *rain[day + 1 :])) for day, is_rainy in enumerate(rain) if is_rainy]


class TestCase(unittest.TestCase):
    def check(self, wanted, week, rule, measure):
        with self.subTest(told(week, rule, measure)):
            self.assertEqual(perverse_rain(week, rule, measure), wanted)
            self.assertIs(perverse(week, rule, measure), wanted is not None)

    def check_pair(self, found, week, rule, measure):
        """Checks that a pair shows what it should show, told by the model."""
        self.assertIs(type(found), tuple)
        rain, day = found
        self.assertIs(type(rain), tuple)
        self.assertTrue(all(type(is_rainy) is bool for is_rainy in rain))
        self.assertIs(type(day), int)
        self.assertTrue(keeps(measure.most, measure.span, rain))
        self.assertIs(rain[day], True)
        drier = dict(with_one_dry(rain))[day]
        late = late_days(season(week, rule, drier)[0], season(week, rule, rain)[0])
        self.assertEqual(set(late), {len(rain) - 1})

    def check_none(self, week, rule, measure, length):
        """Checks by play that no rain of up to a length shows it."""
        # A drier rain keeps the measure, too; and a shorter one is the beginning of some of this length.
        done = {rain: play(week, rule, rain).played for rain in all_rain(measure, length)}
        for rain, played in done.items():
            for _, drier in with_one_dry(rain):
                self.assertEqual(late_days(done[drier], played), [])


class TestDocument(TestCase):
    def test_examples(self):
        self.check(None, WEEK, RULE.but(gap=1), WET)


class TestPerverse(TestCase):
    def test_one_that_is(self):
        found = perverse_rain(CHAIN, ONLY, Measure(2, 2))
        self.check(((True, True, True, False), 0), CHAIN, ONLY, Measure(2, 2))
        self.assertEqual(play(CHAIN, ONLY, found[0]).played[3], ((0, 2), (2, 0)))
        self.assertEqual(play(CHAIN, ONLY, (False, True, True, False)).played[3], ((1, 1),))
        self.check(((True, True, True, False), 0), CHAIN, ONLY, Measure(1, 1))
        self.check(((True, True, True, False), 0), CHAIN, ONLY, Measure(3, 4))

    def test_only_the_wetter_rain_must_keep_the_measure(self):
        # The wetter rain is rainy on three days one behind the other, the drier one on two.
        for measure in (Measure(2, 3), Measure(2, 4)):
            self.assertNotEqual(perverse_rain(CHAIN, ONLY, measure), ((True, True, True, False), 0))
            self.check_none(CHAIN, ONLY, measure, 8)

    def test_some_that_are_not(self):
        dense = RULE.but(gap=1)
        for week, rule in [(CHAIN, ONLY.but(window=2)), (CHAIN, ONLY.but(let=())), (WEEK, RULE), (WEEK, dense)]:
            self.check(None, week, rule, WET)
            self.check_none(week, rule, WET, 8)

    def test_no_rain_at_all_and_weeks_without_matches(self):
        for rule in rules((1, 6)):
            self.check(None, CHAIN, rule, Measure(0, 3))
            self.check(None, Week(3, ()), rule, Measure(2, 2))

    def test_a_match_that_the_drier_rain_loses(self):
        found = perverse_rain(CHAIN, ONLY.but(window=4), Measure(2, 2))
        self.check_pair(found, CHAIN, ONLY.but(window=4), Measure(2, 2))
        rain, day = found
        drier = dict(with_one_dry(rain))[day]
        self.assertEqual(play(CHAIN, ONLY.but(window=4), drier).lost, ((2, 2, 0),))

    def test_a_long_rain(self):
        week, rule = WEEKS[8], Rule(1, 6, ALL)
        for measure in (Measure(1, 1), Measure(2, 2)):
            found = perverse_rain(week, rule, measure)
            self.assertEqual(len(found[0]), 12)
            self.check_pair(found, week, rule, measure)

    def test_against_all_short_rain(self):
        weeks = [CHAIN, *WEEKS[6:], Week(3, [(0, "a", "c"), (2, "b", "c"), (1, "a", "d"), (1, "b", "c")])]
        lengths = []
        for week, rule, measure in itertools.product(weeks, [ONLY, *rules((3, 6))], MEASURES[3:]):
            with self.subTest(told(week, rule, measure)):
                found = perverse_rain(week, rule, measure)
                self.assertIs(perverse(week, rule, measure), found is not None)
                length = 6
                if found is not None:
                    self.check_pair(found, week, rule, measure)
                    lengths.append(len(found[0]))
                    length = min(len(found[0]) - 1, 8)
                self.check_none(week, rule, measure, length)
        self.assertGreater(len(lengths), 5)
        self.assertGreater(len(set(lengths)), 1)


class TestArguments(unittest.TestCase):
    def test_by_name(self):
        for measure in (Measure(2, 2), WET):
            for decide in (perverse, perverse_rain):
                found = decide(measure=measure, rule=ONLY, week=CHAIN)
                self.assertEqual(found, decide(CHAIN, ONLY, measure))

    def test_nothing_is_changed_and_the_same_is_returned(self):
        week, rule, measure = Week(4, CHAIN.matches), ONLY.but(), Measure(2, 2)
        first = perverse_rain(week, rule, measure)
        perverse_rain(WEEK, RULE, WET)
        self.assertEqual(perverse_rain(week, rule, measure), first)
        self.assertEqual((week, rule, measure), (CHAIN, ONLY, Measure(2, 2)))


if __name__ == "__main__":
    unittest.main()
