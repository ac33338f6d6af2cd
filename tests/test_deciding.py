"""Tests of [10] and [11], what is decided for all rain, and of what [1] to [3] say of it."""

import itertools
import unittest

from rainweeks.deciding import fails, latest, losing, most_waiting, standings
from rainweeks.plays import play
from rainweeks.rains import Measure
from rainweeks.rules import Rule
from rainweeks.weeks import Week
from tests.cases import MEASURES, RULE, WEEK, WEEKS, WET, rules
from tests.model import all_rain, keeps, season, standing, walk

ALL = (0, 1, 2, 3, 4, 5)
PAIR = Week(2, [(0, "a", "b")])


def cases(windows):
    """Weeks, rules and measures."""
    return itertools.product(WEEKS, rules(windows), MEASURES)


def told(week, rule, measure):
    return f"{week} / {rule} / {measure.most} in {measure.span}"


class TestDocument(unittest.TestCase):
    def test_examples(self):
        dense = RULE.but(gap=1)
        self.assertEqual((fails(WEEK, RULE, WET), fails(WEEK, dense, WET)), (True, False))
        self.assertEqual((losing(WEEK, RULE, WET), latest(WEEK, dense, WET)), ((True,), 1))
        self.assertEqual((len(standings(WEEK, dense, WET)), most_waiting(WEEK, dense, WET)), (12, 1))


class TestFailing(unittest.TestCase):
    def check(self, wanted, week, rule, measure):
        with self.subTest(told(week, rule, measure)):
            self.assertEqual(losing(week, rule, measure), wanted)
            self.assertIs(fails(week, rule, measure), wanted is not None)

    def test_a_rule_that_loses_a_match(self):
        self.check((True,), PAIR, Rule(1, 6, ()), Measure(1, 4))
        self.check((True, True), PAIR, Rule(1, 1, (1,)), Measure(2, 2))
        self.check((False, False, True), Week(3, [(2, "a", "b")]), Rule(1, 6, ()), Measure(1, 4))
        self.check((True, True), PAIR, Rule(1, 2, ALL), Measure(2, 4))

    def test_a_rule_that_never_does(self):
        self.check(None, PAIR, Rule(1, 1, (1,)), Measure(1, 2))
        self.check(None, Week(5, [(0, "a", "b")]), Rule(1, 2, ALL), Measure(2, 4))
        self.check((True, True, True), Week(5, [(0, "a", "b")]), Rule(1, 2, ALL), Measure(3, 4))

    def test_no_rain_at_all(self):
        for week in WEEKS:
            for span in (1, 4):
                self.check(None, week, Rule(2, 1, ()), Measure(0, span))

    def test_weeks_without_matches(self):
        for days in (1, 2, 5):
            self.check(None, Week(days, ()), Rule(2, 1, ()), Measure(2, 2))

    def test_span_one(self):
        self.check((True,) * 4, Week(5, [(0, "a", "b")]), Rule(1, 3, ALL), Measure(1, 1))
        self.check(None, PAIR, Rule(1, 6, ()), Measure(0, 1))

    def test_a_loss_behind_an_earlier_loss_is_not_the_shortest(self):
        week = Week(4, [(3, "a", "b"), (1, "c", "d")])
        self.check((False, True), week, Rule(1, 2, ()), Measure(1, 2))

    def test_a_match_that_is_lost_behind_many_days(self):
        week = Week(4, [(1, "a", "b"), (0, "c", "a"), (3, "b", "c"), (2, "d", "a")])
        rule = Rule(1, 6, (0, 1, 2, 3))
        for measure in MEASURES:
            with self.subTest(told(week, rule, measure)):
                self.check_losing(week, rule, measure)

    def check_losing(self, week, rule, measure):
        rain = losing(week, rule, measure)
        self.assertIs(fails(week, rule, measure), rain is not None)
        if rain is None:
            shorter = range(11)
        else:
            self.assertIs(type(rain), tuple)
            self.assertEqual({type(is_rainy) for is_rainy in rain}, {bool})
            self.assertTrue(keeps(measure.most, measure.span, rain))
            days = [day for day, _, _ in season(week, rule, rain)[1]]
            self.assertEqual(set(days), {len(rain) - 1})
            shorter = range(len(rain))
        self.assertLess(len(rain or ()), 11)
        # What is lost by a beginning of some rain is lost by all of it.
        for other in all_rain(measure, max(shorter)):
            self.assertEqual(season(week, rule, other)[1], ())

    def test_the_rain_is_a_shortest_that_loses(self):
        for week, rule, measure in cases((1, 4)):
            with self.subTest(told(week, rule, measure)):
                self.check_losing(week, rule, measure)


class TestLateness(unittest.TestCase):
    def check(self, wanted, week, rule, measure):
        """Checks the pair of how late a match is played, and how many wait."""
        with self.subTest(told(week, rule, measure)):
            self.assertEqual((latest(week, rule, measure), most_waiting(week, rule, measure)), wanted)

    def test_where_nothing_is_put_off(self):
        self.check((0, 0), WEEK, RULE.but(gap=1), Measure(0, 3))
        self.check((0, 0), WEEK, RULE.but(gap=1, let=()), Measure(2, 2))
        self.check((0, 0), Week(3, ()), RULE, Measure(2, 2))
        self.check((0, 0), Week(1, [(0, "a", "b")]), Rule(1, 6, (0,)), Measure(2, 4))

    def test_where_matches_are(self):
        self.check((1, 1), PAIR, Rule(1, 1, (1,)), Measure(1, 2))
        self.check((3, 1), WEEK, RULE.but(gap=1), Measure(2, 4))
        self.check((1, 2), Week(3, [(0, "a", "b"), (0, "c", "d")]), Rule(1, 6, ALL), Measure(1, 3))

    def test_all_days_may_be_rainy(self):
        for window in range(1, 5):
            self.check((window, 1), Week(5, [(0, "a", "b")]), Rule(1, window, ALL), Measure(2, 2))

    def test_what_is_lost_is_not_played_late(self):
        self.check((3, 1), Week(5, [(0, "a", "b")]), Rule(1, 6, (3,)), Measure(2, 2))
        self.check((0, 0), Week(5, [(0, "a", "b")]), Rule(1, 2, (3,)), Measure(2, 2))

    def test_the_same_match_waits_twice(self):
        self.check((5, 2), PAIR, Rule(1, 5, (1,)), Measure(2, 3))
        self.check((3, 1), PAIR, Rule(1, 3, (1,)), Measure(2, 3))
        self.check((3, 2), PAIR, Rule(1, 3, (1,)), Measure(2, 2))

    def test_against_all_short_rain(self):
        for week, rule, measure in cases((2, 6)):
            late, many = 0, 0
            for rain in all_rain(measure, 7):
                done = play(week, rule, rain)
                late = max([late, *(day - own for day, row in enumerate(done.played) for own, _ in row)])
                many = max(many, len(done.waiting))
            with self.subTest(told(week, rule, measure)):
                self.assertLessEqual(late, latest(week, rule, measure))
                self.assertLessEqual(many, most_waiting(week, rule, measure))

    def test_against_a_walk(self):
        for week, rule, measure in cases((3, 6)):
            late, many = 0, 0
            for rain in walk(week, rule, measure).values():
                many = max(many, len(season(week, rule, rain)[2]))
                due = season(week, rule, (*rain, False))[0][-1]
                late = max([late, *(len(rain) - own for own, _ in due)])
            self.check((late, many), week, rule, measure)


class TestStandings(unittest.TestCase):
    def test_by_hand(self):
        wanted = ((0, (), (False,)), (0, (), (True,)), (1, (), (False,)), (1, ((0, 1, 0),), (True,)))
        self.assertEqual(standings(PAIR, Rule(1, 1, (1,)), Measure(1, 2)), wanted)

    def test_a_wait_of_several_days(self):
        week, rule = Week(3, [(0, "a", "b")]), Rule(1, 2, (2,))
        wanted = ((0, (), (False,)), (0, (), (True,)), (1, (), (False,)), (1, ((1, 1, 0),), (True,)))
        wanted += ((2, (), (False,)), (2, (), (True,)), (2, ((0, 2, 0),), (False,)))
        self.assertEqual(standings(week, rule, Measure(1, 2)), wanted)

    def test_what_waits_ascends(self):
        week = Week(3, [(1, "c", "d"), (0, "a", "b")])
        found = standings(week, Rule(1, 2, ALL), Measure(2, 2))
        self.assertIn((2, ((0, 1, 0), (0, 2, 1)), (True,)), found)

    def test_a_week_without_matches(self):
        rains = [(False, False), (False, True), (True, False)]
        wanted = tuple((day, (), rain) for day in range(2) for rain in rains)
        self.assertEqual(standings(Week(2, ()), RULE, Measure(1, 3)), wanted)
        self.assertEqual(standings(Week(1, ()), RULE, Measure(1, 1)), ((0, (), ()),))

    def test_no_rain_at_all(self):
        wanted = tuple((day, (), (False, False)) for day in range(4))
        self.assertEqual(standings(WEEK, RULE, Measure(0, 3)), wanted)

    def test_span_one(self):
        self.assertEqual(standings(PAIR, RULE, Measure(0, 1)), ((0, (), ()), (1, (), ())))
        wanted = ((0, (), ()), (1, (), ()), (1, ((0, 1, 0),), ()))
        self.assertEqual(standings(PAIR, Rule(1, 1, (1,)), Measure(1, 1)), wanted)

    def test_days_behind_a_loss_count(self):
        wanted = ((0, (), (False,)), (0, (), (True,)), (1, (), (False,)), (1, (), (True,)))
        self.assertEqual(standings(PAIR, Rule(1, 6, ()), Measure(1, 2)), wanted)

    def test_they_are_plain_ascending_tuples_each_once(self):
        for week, rule, measure in cases((6,)):
            found = standings(week, rule, measure)
            self.assertIs(type(found), tuple)
            self.assertEqual(found, tuple(sorted(set(found))))
            for day, waiting, rain in found:
                self.assertEqual((type(day), type(waiting), type(rain)), (int, tuple, tuple))
                self.assertTrue(all(type(row) is tuple and len(row) == 3 for row in waiting))
                self.assertTrue(all(type(number) is int for row in waiting for number in row))
                self.assertEqual(waiting, tuple(sorted(waiting)))
                self.assertEqual(len(rain), measure.span - 1)
                self.assertTrue(all(type(is_rainy) is bool for is_rainy in rain))

    def test_those_behind_all_short_rain(self):
        for week, rule, measure in cases((4,)):
            found = set(standings(week, rule, measure))
            for length in range(6):
                for rain in all_rain(measure, length):
                    self.assertIn(standing(week, rule, measure, rain), found, told(week, rule, measure))

    def test_against_a_walk(self):
        for week, rule, measure in cases((1, 3, 6)):
            with self.subTest(told(week, rule, measure)):
                self.assertEqual(standings(week, rule, measure), tuple(sorted(walk(week, rule, measure))))


class TestArguments(unittest.TestCase):
    def test_by_name(self):
        arguments = {"measure": WET, "rule": RULE, "week": WEEK}
        for decide in (fails, losing, latest, most_waiting, standings):
            with self.subTest(decide.__name__):
                self.assertEqual(decide(**arguments), decide(WEEK, RULE, WET))

    def test_the_same_call_returns_an_equal_result(self):
        functions = (fails, losing, latest, most_waiting, standings)
        first = [decide(WEEK, RULE.but(gap=1), WET) for decide in functions]
        for week, rule, measure in itertools.product(WEEKS[:4], [RULE, RULE.but(gap=1)], MEASURES):
            for decide in functions:
                decide(week, rule, measure)
        self.assertEqual([decide(WEEK, RULE.but(gap=1), WET) for decide in functions], first)
        self.assertEqual((WEEK, RULE, WET), (Week(4, WEEK.matches), Rule(2, 4, (1, 3)), Measure(1, 3)))

    def test_both_orders_decide_the_same(self):
        for week, rule, measure in cases((5,)):
            first, last = rule.but(order="first"), rule.but(order="last")
            self.assertEqual(standings(week, first, measure), standings(week, last, measure))
            self.assertEqual(fails(week, first, measure), fails(week, last, measure))

    def test_the_largest_that_is_promised(self):
        matches = [[(0, "f", "e"), (2, "c", "h"), (3, "d", "f"), (1, "b", "h")]]
        matches += [[(0, "a", "b"), (0, "c", "d"), (0, "e", "f"), (0, "g", "h")]]
        matches += [[(0, "a", "b"), (1, "a", "c"), (2, "b", "d"), (3, "c", "d")]]
        for days, rows, measure in itertools.product((4, 5), matches, MEASURES):
            week, rule = Week(days, rows), Rule(1, 6, ALL)
            found = standings(week, rule, measure)
            self.assertEqual(most_waiting(week, rule, measure), max(len(waiting) for _, waiting, _ in found))
            self.assertIs(fails(week, rule, measure), losing(week, rule, measure) is not None)


if __name__ == "__main__":
    unittest.main()
