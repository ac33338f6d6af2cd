"""Tests of [15], mending, and of what [1] to [3] say of it."""

import itertools
import unittest

from rainweeks.mending import least_window, spare_days, wettest
from rainweeks.rains import Measure
from rainweeks.rules import Rule
from rainweeks.weeks import Week
from tests.cases import MEASURES, RULE, WEEK, WEEKS, WET, rules
from tests.model import loses

DENSE = RULE.but(gap=1)
ALL = (0, 1, 2, 3, 4)
LONE = Week(5, [(0, "a", "b")])
PAIR = Week(2, [(0, "a", "b")])


def told(week, rule, measure):
    return f"{week} / {rule} / {measure.most} in {measure.span}"


def cases():
    """Weeks, rules and measures, some of all."""
    return list(itertools.product(WEEKS, rules((2, 5)), MEASURES))[::3]


class TestDocument(unittest.TestCase):
    def test_examples(self):
        self.assertEqual((least_window(WEEK, DENSE, WET), least_window(WEEK, RULE, WET)), (1, None))
        self.assertEqual((spare_days(WEEK, DENSE, WET), wettest(WEEK, DENSE, 3)), ((), 1))


class TestLeastWindow(unittest.TestCase):
    def check(self, wanted, week, rule, measure):
        with self.subTest(told(week, rule, measure)):
            self.assertEqual(least_window(week, rule, measure), wanted)

    def test_from_one_to_four(self):
        self.check(1, PAIR, Rule(1, 6, (1,)), Measure(1, 3))
        self.check(2, Week(3, [(0, "a", "b")]), Rule(1, 6, (2,)), Measure(1, 4))
        self.check(3, PAIR, Rule(1, 6, (1,)), Measure(2, 4))
        self.check(4, Week(5, [(4, "a", "b")]), Rule(1, 6, (2, 3)), Measure(1, 2))

    def test_up_to_six_and_no_more(self):
        # The match can be put off to one day alone, which is dry if its own day is rainy.
        week, measure = Week(9, [(0, "a", "b")]), Measure(1, 8)
        for day in range(1, 7):
            self.check(day, week, Rule(1, 6, (day,)), measure)
        for day in (7, 8):
            self.check(None, week, Rule(1, 6, (day,)), measure)
            self.check(None, week, Rule(1, 9, (day,)), measure)

    def test_none(self):
        self.check(None, PAIR, Rule(1, 6, ()), WET)
        self.check(None, Week(1, [(0, "a", "b")]), Rule(1, 6, ALL), WET)
        self.check(None, LONE, Rule(1, 6, ALL), Measure(2, 2))

    def test_one_where_nothing_can_be_lost(self):
        self.check(1, PAIR, Rule(2, 6, ()), Measure(0, 1))
        self.check(1, Week(3, ()), Rule(2, 6, ()), Measure(2, 2))

    def test_the_window_of_the_rule_means_nothing(self):
        for week, rule, measure in cases()[::5]:
            found = [least_window(week, rule.but(window=window), measure) for window in (1, 3, 6, 9)]
            self.assertEqual(found, found[:1] * 4, told(week, rule, measure))

    def test_against_the_model(self):
        for week, rule, measure in cases()[::3]:
            fine = [window for window in range(1, 7) if not loses(week, rule.but(window=window), measure)]
            self.check(min(fine, default=None), week, rule, measure)


class TestSpareDays(unittest.TestCase):
    def check(self, wanted, week, rule, measure):
        with self.subTest(told(week, rule, measure)):
            found = spare_days(week, rule, measure)
            self.assertEqual(found, wanted)
            self.assertIs(type(found), tuple)

    def test_by_hand(self):
        self.check((1,), Week(2, [(1, "b", "d")]), Rule(1, 6, (0, 1)), Measure(1, 2))
        self.check((1, 2), Week(3, [(0, "a", "b")]), Rule(1, 6, (1, 2)), Measure(1, 4))
        self.check((0, 1, 2, 3), Week(4, [(0, "a", "b")]), Rule(1, 6, (0, 1, 2, 3)), Measure(2, 4))
        self.check((0, 2, 3, 4), LONE, Rule(1, 2, ALL), Measure(1, 2))
        self.check((0, 3, 4), LONE, Rule(1, 2, ALL), Measure(2, 4))
        self.check((0, 1, 2, 3, 4), LONE, Rule(1, 2, ALL), Measure(1, 3))

    def test_each_alone_and_not_together(self):
        week, rule = Week(3, [(0, "a", "b")]), Rule(1, 6, (1, 2))
        self.check((1, 2), week, rule, Measure(1, 4))
        self.check((), week, rule.but(let=(1,)), Measure(1, 4))
        self.check((), week, rule.but(let=(2,)), Measure(1, 4))

    def test_days_that_the_week_does_not_have(self):
        self.check((1, 2), Week(3, [(0, "a", "b")]), Rule(1, 6, (9, 1, 3, 2, 4)), Measure(1, 4))
        self.check((0,), PAIR, Rule(1, 6, (0, 1, 2, 3)), Measure(1, 3))
        self.check((), PAIR, Rule(1, 6, (2, 3)), Measure(0, 3))

    def test_a_rule_that_fails(self):
        for rule in (RULE, RULE.but(let=ALL), RULE.but(let=()), DENSE.but(let=(1,))):
            self.check((), WEEK, rule, WET)

    def test_weeks_without_matches(self):
        for days in range(1, 6):
            self.check(ALL[:days], Week(days, ()), Rule(1, 1, ALL), Measure(2, 2))
        self.check((), Week(3, ()), Rule(1, 1, ()), Measure(2, 2))

    def test_where_there_is_no_rain(self):
        self.check((1, 3), WEEK, RULE, Measure(0, 3))

    def test_against_the_model(self):
        for week, rule, measure in cases()[1::3]:
            wanted = [
                day
                for day in rule.let
                if day < week.days and not loses(week, rule.but(let=[one for one in rule.let if one != day]), measure)
            ]
            self.check(() if loses(week, rule, measure) else tuple(wanted), week, rule, measure)


class TestWettest(unittest.TestCase):
    def check(self, wanted, week, rule, span):
        with self.subTest(f"{week} / {rule} / {span}"):
            self.assertEqual(wettest(week, rule, span), wanted)

    def test_spans_from_one_to_four(self):
        for span, wanted in [(1, 0), (2, 1), (3, 2), (4, 2)]:
            self.check(wanted, LONE, Rule(1, 2, ALL), span)
        for span, wanted in [(1, 0), (2, 1), (3, 1), (4, 1)]:
            self.check(wanted, LONE, Rule(1, 1, ALL), span)
        for span, wanted in [(1, 0), (2, 0), (3, 0), (4, 1)]:
            self.check(wanted, LONE, Rule(1, 3, (3,)), span)

    def test_at_most_the_span_and_at_most_two(self):
        for span, wanted in [(1, 1), (2, 2), (3, 2), (4, 2), (5, 2)]:
            self.check(wanted, Week(3, ()), Rule(1, 1, ()), span)

    def test_where_only_no_rain_is_left(self):
        for span in range(1, 5):
            self.check(0, PAIR, Rule(1, 6, ()), span)
            self.check(0, WEEK, RULE, span)
            self.check(0, Week(1, [(0, "a", "b")]), Rule(1, 6, ALL), span)

    def test_against_the_model(self):
        for week, rule, _ in cases()[2::5]:
            for span in range(1, 5):
                mosts = [most for most in range(3) if most <= span and not loses(week, rule, Measure(most, span))]
                self.check(max(mosts), week, rule, span)


class TestArguments(unittest.TestCase):
    def test_by_name(self):
        self.assertEqual(least_window(measure=WET, rule=DENSE, week=WEEK), 1)
        self.assertEqual(spare_days(measure=Measure(1, 3), rule=Rule(1, 6, (0, 1, 2)), week=PAIR), (0,))
        self.assertEqual(wettest(span=3, rule=DENSE, week=WEEK), 1)

    def test_nothing_is_changed_and_the_same_is_returned(self):
        week, rule, measure = Week(4, WEEK.matches), DENSE.but(), Measure(1, 3)
        first = least_window(week, rule, measure), spare_days(week, rule, measure), wettest(week, rule, 3)
        again = least_window(week, rule, measure), spare_days(week, rule, measure), wettest(week, rule, 3)
        self.assertEqual(first, again)
        self.assertEqual((week, rule, measure), (WEEK, DENSE, WET))


if __name__ == "__main__":
    unittest.main()
