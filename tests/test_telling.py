"""Tests of [16], rain told back, and of what [1] to [3] say of it."""

import itertools
import unittest

from rainweeks.errors import InvalidSeen
from rainweeks.plays import play
from rainweeks.rains import Measure
from rainweeks.rules import Rule
from rainweeks.telling import fits, rains_of, surely
from rainweeks.weeks import Week
from tests.cases import MEASURES, RULE, WEEK, WEEKS, WET, rules
from tests.model import all_rain, season
from tests.values import nested, no_numbers, no_sequences, objects, sequences

DENSE = RULE.but(gap=1)
LONE = Week(5, [(0, "a", "b")])
DRY, RAINY = False, True


def sure(rains):
    """What is the same for each day in all of some rains."""
    if not rains:
        return None
    words = {(False,): "dry", (True,): "wet", (False, True): "open"}
    return tuple(words[tuple(sorted(set(days)))] for days in zip(*rains))


class TestCase(unittest.TestCase):
    def check(self, wanted, seen, week=WEEK, rule=DENSE, measure=WET):
        """Checks all three functions against the rain that is wanted."""
        with self.subTest(f"{week} / {rule} / {measure.most} in {measure.span} / {seen}"):
            found = rains_of(week, rule, measure, seen)
            self.assertEqual(found, tuple(wanted))
            self.assertTrue(type(found) is tuple and all(type(rain) is tuple for rain in found))
            self.assertTrue(all(type(is_rainy) is bool for rain in found for is_rainy in rain))
            self.assertIs(fits(week, rule, measure, seen), len(found) > 0)
            self.assertEqual(surely(week, rule, measure, seen), sure(wanted))
            self.assertIn(type(surely(week, rule, measure, seen)), (tuple, type(None)))


class TestDocument(TestCase):
    def test_examples(self):
        self.assertEqual(rains_of(WEEK, DENSE, WET, [(), ((0, 0),), ((2, 1),)]), ((RAINY, DRY, DRY),))
        self.assertEqual(surely(WEEK, DENSE, WET, [((0, 0),), ()]), ("dry", "open"))


class TestTelling(TestCase):
    def test_nothing_seen_at_all(self):
        for week, rule, measure in [(WEEK, DENSE, WET), (WEEK, RULE, Measure(0, 1)), (Week(1, ()), RULE, WET)]:
            for seen in ([], ()):
                self.check([()], seen, week, rule, measure)
                self.assertEqual(surely(week, rule, measure, seen), ())

    def test_what_no_rain_leads_to(self):
        self.check([], [((0, 1),)])
        self.check([], [((2, 1),)])
        self.check([], [(), ()])
        self.check([], [((0, 0),), ((0, 0),)])
        self.check([], [((0, 0),), (), ((1, 1),)])
        self.check([], [((0, 0), (0, 1))])
        self.check([], [((0, 0), (2, 1))])
        self.check([], [((0, 0),), ((10**30, 10**30),)])
        self.check([], [(), ((0, 0),), (), ((2, 1),)])

    def test_several_rains_for_the_same(self):
        both = [(DRY, DRY), (DRY, RAINY)]
        self.check(both, [((0, 0),), ()])
        self.check(both, (((0, 0),), ()))
        self.check(both, [((0, 0),), ()], rule=RULE)
        every = sorted(all_rain(WET, 5))
        self.check(every, [()] * 5, Week(3, ()))
        self.check([rain for rain in every if not rain[0]], [((0, 0),), (), (), (), ()], LONE)

    def test_what_comes_later_tells_of_a_day_ahead(self):
        week, rule = Week(5, [(0, "a", "b")]), Rule(1, 6, (2, 3))
        measure = Measure(2, 3)
        self.check([(RAINY, DRY), (RAINY, RAINY)], [(), ()], week, rule, measure)
        self.check([(RAINY, DRY, RAINY)], [(), (), ()], week, rule, measure)
        self.check([(RAINY, DRY, DRY), (RAINY, RAINY, DRY)], [(), (), ((0, 0),)], week, rule, measure)
        self.check([(RAINY, DRY, RAINY, DRY)], [(), (), (), ((0, 0),)], week, rule, measure)

    def test_rain_that_the_measure_does_not_let(self):
        self.check([(RAINY, RAINY)], [(), ()], measure=Measure(2, 2))
        self.check([], [(), ()], measure=Measure(1, 2))
        self.check([], [()], measure=Measure(0, 2))
        self.check([(DRY, DRY)], [((0, 0),), ()], measure=Measure(0, 2))

    def test_what_was_lost_is_never_seen(self):
        self.check([(RAINY,)], [()], LONE, Rule(1, 6, ()))
        self.check([(RAINY, DRY, DRY), (RAINY, DRY, RAINY)], [(), (), ()], LONE, Rule(1, 6, ()), Measure(1, 2))

    def test_all_short_rain(self):
        some = list(itertools.product(WEEKS, rules((1, 4)), MEASURES))[::9]
        for week, rule, measure in some:
            by_seen = {}
            for rain in sorted(all_rain(measure, 5)):
                by_seen.setdefault(play(week, rule, rain).played, []).append(rain)
            for seen, rains in by_seen.items():
                self.check(rains, seen, week, rule, measure)

    def test_what_other_rain_leads_to(self):
        some = list(itertools.product(WEEKS[3:], rules((3, 6)), MEASURES[2:]))[::13]
        for week, rule, measure in some:
            wanted = {}
            for rain in sorted(all_rain(measure, 4)):
                wanted.setdefault(season(week, rule, rain)[0], []).append(rain)
            for rain in itertools.product((DRY, RAINY), repeat=4):
                seen = season(week, rule.but(window=2), rain)[0]
                self.check(wanted.get(seen, []), seen, week, rule, measure)

    def test_forty_days(self):
        rain = [RAINY, RAINY, DRY, DRY, DRY, RAINY, DRY, DRY] * 5
        for week, rule in [(WEEK, DENSE), (Week(5, ()), DENSE), (WEEKS[7], Rule(1, 6, (0, 1, 2, 3)))]:
            for measure in (Measure(2, 4), Measure(2, 2)):
                seen = play(week, rule, rain).played
                self.assertIs(fits(week, rule, measure, seen), True)
                told = surely(week, rule, measure, list(seen))
                self.assertEqual(len(told), 40)
                for word, is_rainy, pairs in zip(told, rain, seen):
                    self.assertIn(word, ("open", "wet" if is_rainy else "dry"))
                    self.assertTrue(word == "dry" or not pairs)
                wrong = (*seen[:-1], ((99, 0),))
                self.assertIs(fits(week, rule, measure, wrong), False)
                self.assertIsNone(surely(week, rule, measure, wrong))
                self.assertEqual(rains_of(week, rule, measure, wrong), ())

    def test_ten_days(self):
        every = tuple(sorted(all_rain(Measure(2, 2), 10)))
        self.assertEqual(len(every), 1024)
        self.assertEqual(rains_of(Week(3, ()), RULE, Measure(2, 2), [()] * 10), every)
        self.assertEqual(surely(Week(3, ()), RULE, Measure(2, 2), [()] * 10), ("open",) * 10)

    def test_what_was_played_with_a_day_of_it_changed(self):
        seen = play(WEEK, DENSE, [DRY, DRY, RAINY, DRY]).played
        both = [(DRY, DRY), (DRY, RAINY)]
        self.check([(DRY, DRY, RAINY, DRY)], seen)
        self.check(both, seen[:2])
        self.check([(*rain, DRY) for rain in both], seen[:2] + seen[3:])
        for changed in (seen[::-1], seen[1:], seen[:1] + seen, (*seen[:3], ()), (*seen[:2], ((2, 1),), seen[3])):
            self.check([], changed)


class TestInvalidSeen(unittest.TestCase):
    def check(self, at, seen):
        for function in (fits, rains_of, surely):
            for week, measure in ((WEEK, WET), (Week(1, ()), Measure(0, 1))):
                with self.subTest(function=function.__name__, seen=seen), self.assertRaises(InvalidSeen) as caught:
                    function(week, DENSE, measure, seen)
                self.assertEqual(caught.exception.at, at)

    def check_day(self, thing):
        """Checks that a thing is no day, at any place."""
        self.check(0, [thing])
        self.check(0, (thing, ((0, 0),)))
        self.check(2, [(), ((7, 9),), thing])
        self.check(1, [((0, 0),), thing, thing, None])

    def test_no_sequence(self):
        for seen in no_sequences():
            self.check(0, seen)

    def test_any_values_in_the_place_of_a_day(self):
        values = [*no_sequences(), *sequences(), *objects(), [], [(0, 0)], [()], ((),), nested((), 7), nested([], 7)]
        for thing in values:
            self.check_day(thing)

    def test_any_values_in_the_place_of_a_pair(self):
        values = [*no_sequences(), *sequences(), *objects(), [], (), [0, 0], (0,), (0, 0, 0), ((0, 0),), nested((), 6)]
        for thing in values:
            self.check_day((thing,))
            self.check_day(((0, 0), thing))
            self.check_day((thing, (10, 0)))

    def test_any_values_in_the_place_of_a_number(self):
        for thing in [*no_numbers(), nested((), 5)]:
            self.check_day(((thing, 0),))
            self.check_day(((0, thing),))
            self.check_day(((0, 0), (1, thing)))

    def test_bools_are_no_numbers(self):
        for pair in [(False, 0), (0, False), (True, True), (True, 0), (0, True)]:
            self.check_day((pair,))

    def test_pairs_that_do_not_ascend(self):
        self.check_day(((1, 0), (0, 0)))
        self.check_day(((0, 1), (0, 0)))
        self.check_day(((0, 0), (2, 0), (1, 0)))
        self.check_day(((1, 0), (0, 1)))

    def test_pairs_twice(self):
        self.check_day(((0, 0), (0, 0)))
        self.check_day(((0, 0), (1, 1), (1, 1)))
        self.check_day(((0, 0), (0, 1), (0, 0)))

    def test_days_in_the_place_of_what_was_seen(self):
        self.check(0, ((0, 0),))
        self.check(0, (((0, 0), (0, 1)), (5,))[1])
        self.check(1, [(), 0])

    def test_what_is_wrong_is_told_before_what_does_not_fit(self):
        self.check(3, [((9, 9),), ((9, 9),), (), [], ((9, 9),)])

    def test_what_is_of_the_form_raises_nothing(self):
        for seen in [[((0, 0), (0, 1), (1, 0))], [((10**30, 5), (10**30, 10**30))], ((), ()), [(), ((5, 5),)]]:
            self.assertIs(fits(WEEK, DENSE, WET, seen), False)


class TestArguments(unittest.TestCase):
    def test_by_name(self):
        arguments = {"seen": [((0, 0),), ()], "measure": WET, "rule": DENSE, "week": WEEK}
        self.assertIs(fits(**arguments), True)
        self.assertEqual(rains_of(**arguments), ((DRY, DRY), (DRY, RAINY)))
        self.assertEqual(surely(**arguments), ("dry", "open"))

    def test_nothing_is_changed_and_the_same_is_returned(self):
        seen = [((0, 0),), ()]
        first = [function(WEEK, DENSE, WET, seen) for function in (fits, rains_of, surely)]
        self.assertEqual(seen, [((0, 0),), ()])
        rains_of(WEEK, RULE, WET, [()])
        self.assertEqual([function(WEEK, DENSE, WET, seen) for function in (fits, rains_of, surely)], first)
        seen.clear()
        self.assertEqual(first[1:], [((DRY, DRY), (DRY, RAINY)), ("dry", "open")])


if __name__ == "__main__":
    unittest.main()
