"""Tests of [13], comparing two rules, and of what [1] to [3] say of it."""

import itertools
import unittest

from rainweeks.comparing import alike, later, never_later, order_counts, parting
from rainweeks.plays import play
from rainweeks.rains import Measure
from rainweeks.rules import Rule
from rainweeks.weeks import Week
from tests.cases import MEASURES, RULE, WEEK, WEEKS, WET, rules
from tests.model import all_rain, keeps, late_days, season

DENSE = RULE.but(gap=1)
ALL = (0, 1, 2, 3, 4)
LONE = Week(5, [(0, "a", "b")])
TRUE, FALSE = True, False


def told(week, p, q, measure):
    return f"{week} / {p} / {q} / {measure.most} in {measure.span}"


def unlike_days(week, p, q, rain):
    """The days of some rain on which not the same is played or lost by both rules."""
    one, other = play(week, p, rain), play(week, q, rain)
    days = [day for day in range(len(rain)) if one.played[day] != other.played[day]]
    return days + [day for day, _, _ in set(one.lost) ^ set(other.lost)]


def days_later(week, p, q, rain):
    """The days of some rain on which q plays a match that p has not played by then."""
    return late_days(play(week, p, rain).played, play(week, q, rain).played)


def variants(rule):
    """Rules that differ from one in order alone, in gap, in window, in the days that are let."""
    yield rule
    yield rule.but(order="last" if rule.order == "first" else "first")
    yield rule.but(gap=3 - rule.gap)
    yield rule.but(window=rule.window + 1)
    yield rule.but(window=1)
    yield rule.but(let=rule.let[1:])
    yield rule.but(let=(0, 2, 3))
    yield Rule(3 - rule.gap, 3, (2, 4), "last")


PAIRS = [(rule, other) for rule in list(rules((2, 5)))[1::3] for other in variants(rule)]
SOME = list(itertools.product(WEEKS[3:], PAIRS, MEASURES[2:]))[::3]


class TestCase(unittest.TestCase):
    def check_parting(self, wanted, week, p, q, measure):
        with self.subTest(told(week, p, q, measure)):
            self.assertEqual(parting(week, p, q, measure), wanted)
            self.assertIs(alike(week, p, q, measure), wanted is None)

    def check_later(self, wanted, week, p, q, measure):
        with self.subTest(told(week, p, q, measure)):
            self.assertEqual(later(week, p, q, measure), wanted)
            self.assertIs(never_later(week, p, q, measure), wanted is None)

    def check_shortest(self, rain, days_shown, measure, beyond):
        """Checks that rain is a shortest that shows something on its last day, or that none does."""
        length = beyond
        if rain is not None:
            self.assertIs(type(rain), tuple)
            self.assertTrue(all(type(is_rainy) is bool for is_rainy in rain))
            self.assertTrue(keeps(measure.most, measure.span, rain))
            self.assertEqual(set(days_shown(rain)), {len(rain) - 1})
            length = min(len(rain) - 1, beyond)
        # What any shorter rain shows is also shown by a rain of this length that begins with it.
        for other in all_rain(measure, length):
            self.assertEqual(days_shown(other), [])


class TestDocument(TestCase):
    def test_examples(self):
        self.assertIs(order_counts(WEEK, DENSE, WET), False)
        self.assertIs(never_later(WEEK, DENSE, RULE, WET), True)


class TestParting(TestCase):
    def test_a_rule_and_itself(self):
        for week, rule, measure in itertools.product(WEEKS, rules((1, 6)), MEASURES):
            self.check_parting(None, week, rule, rule, measure)

    def test_another_gap(self):
        self.check_parting((TRUE,), WEEK, DENSE, RULE, WET)
        self.check_parting((TRUE,), WEEK, RULE, DENSE, WET)
        week = Week(5, [(0, "a", "b"), (1, "a", "c")])
        self.check_parting((TRUE, FALSE, FALSE), week, Rule(1, 6, (2, 3)), Rule(2, 6, (2, 3)), WET)
        self.check_parting(None, LONE, Rule(1, 3, ALL), Rule(2, 3, ALL), Measure(2, 2))

    def test_another_window(self):
        self.check_parting((TRUE, TRUE), LONE, Rule(1, 2, ALL), Rule(1, 1, ALL), Measure(2, 3))
        self.check_parting((TRUE,) * 3, LONE, Rule(1, 2, ALL), Rule(1, 4, ALL), Measure(2, 2))
        self.check_parting(None, LONE, Rule(1, 2, ALL), Rule(1, 4, ALL), Measure(2, 3))
        # On day 5 the sides have their next match.
        self.check_parting(None, LONE, Rule(1, 4, ALL), Rule(1, 5, ALL), Measure(2, 2))
        self.check_parting((TRUE,) * 5, LONE, Rule(1, 4, ALL), Rule(1, 6, ALL), Measure(2, 2))

    def test_other_days_that_are_let(self):
        self.check_parting((TRUE, FALSE), LONE, Rule(1, 6, (1, 2)), Rule(1, 6, (2,)), WET)
        self.check_parting((TRUE, FALSE, FALSE), LONE, Rule(1, 6, (2,)), Rule(1, 6, (3,)), WET)
        self.check_parting(None, LONE, Rule(1, 6, (1, 2)), Rule(1, 6, (1, 2, 0, 7)), WET)
        self.check_parting((TRUE, TRUE, FALSE), LONE, Rule(1, 6, (1, 2)), Rule(1, 6, (1, 3)), Measure(2, 3))
        self.check_parting(None, LONE, Rule(1, 6, (1, 2)), Rule(1, 6, (1, 3)), Measure(1, 2))

    def test_what_is_lost_counts_on_its_day(self):
        self.check_parting((TRUE,), LONE, Rule(1, 6, ()), Rule(1, 6, (4,)), WET)
        self.check_parting((TRUE, TRUE), LONE, Rule(1, 5, (1,)), Rule(1, 5, (1, 4)), Measure(2, 3))
        # The same match is lost by both, but not on the same day.
        self.check_parting((TRUE,), LONE, Rule(1, 1, ALL), Rule(1, 1, ()), Measure(2, 2))
        self.check_parting(None, LONE, Rule(1, 6, ()), Rule(2, 1, (3, 4)), Measure(2, 2))

    def test_what_waits_elsewhere_does_not_count_until_it_is_played(self):
        self.check_parting((TRUE, FALSE, FALSE), LONE, Rule(1, 6, (2,)), Rule(1, 6, (4,)), WET)
        # Both lose the match if the later day is rainy, too; else it is played on unlike days.
        self.check_parting((TRUE, FALSE, FALSE, FALSE), LONE, Rule(1, 4, (3,)), Rule(1, 4, (4,)), WET)

    def test_no_rain_at_all_and_weeks_without_matches(self):
        for p, q in PAIRS:
            self.check_parting(None, WEEK, p, q, Measure(0, 3))
            self.check_parting(None, Week(3, ()), p, q, Measure(2, 2))

    def test_against_all_short_rain(self):
        found = 0
        for week, (p, q), measure in SOME:
            with self.subTest(told(week, p, q, measure)):
                rain = parting(week, p, q, measure)
                self.assertIs(alike(week, p, q, measure), rain is None)
                self.check_shortest(rain, lambda there: unlike_days(week, p, q, there), measure, 6)
                found += rain is not None
        self.assertTrue(100 < found < len(SOME) - 100)

    def test_it_does_not_matter_which_rule_is_named_first(self):
        for week, (p, q), measure in SOME:
            with self.subTest(told(week, p, q, measure)):
                one, other = parting(week, p, q, measure), parting(week, q, p, measure)
                self.assertEqual(one and len(one), other and len(other))


class TestOrder(TestCase):
    def test_it_never_counts(self):
        for week, rule, measure in itertools.product(WEEKS, rules((1, 2, 4, 6)), MEASURES):
            self.assertIs(order_counts(week, rule, measure), False)

    def test_rules_that_differ_in_order_alone(self):
        for week, rule, measure in itertools.product(WEEKS, rules((3, 6)), MEASURES):
            one, other = rule.but(order="first"), rule.but(order="last")
            self.check_parting(None, week, one, other, measure)
            self.check_later(None, week, other, one, measure)


class TestLater(TestCase):
    def test_a_rule_and_itself(self):
        for week, rule, measure in itertools.product(WEEKS, rules((1, 6)), MEASURES):
            self.check_later(None, week, rule, rule, measure)

    def test_both_ways_round(self):
        near, far = Rule(1, 6, (1,)), Rule(1, 6, (3,))
        self.check_later(None, LONE, near, far, WET)
        self.check_later((TRUE, FALSE), LONE, far, near, WET)
        self.check_later((TRUE, TRUE, FALSE, FALSE), LONE, near, far, Measure(2, 3))

    def test_what_is_lost_is_later_than_what_is_played(self):
        never, once = Rule(1, 6, ()), Rule(1, 6, (3,))
        self.check_later((TRUE, FALSE, FALSE, FALSE), LONE, never, once, WET)
        self.check_later(None, LONE, once, never, WET)
        self.check_later(None, WEEK, DENSE, RULE, WET)
        self.check_later((TRUE, FALSE), WEEK, RULE, DENSE, WET)

    def test_what_both_lose_is_not_later(self):
        one, other = Rule(1, 6, ()), Rule(2, 1, (3, 4))
        self.check_later(None, LONE, one, other, Measure(2, 2))
        self.check_later(None, LONE, other, one, Measure(2, 2))

    def test_what_is_lost_long_ahead(self):
        # By the window of 1 the match is lost on day 1, by the other rule it is played on day 4.
        self.check_later((TRUE, TRUE, FALSE, FALSE, FALSE), LONE, Rule(1, 1, ALL), Rule(1, 6, (1, 4)), Measure(2, 3))
        self.check_later(None, LONE, Rule(1, 1, ALL), Rule(1, 6, (1, 4)), WET)

    def test_each_is_later_than_the_other(self):
        week = Week(5, [(0, "a", "b"), (2, "c", "d")])
        one, other = Rule(1, 6, (1, 4)), Rule(1, 6, (3,))
        self.check_later((FALSE, FALSE, TRUE, FALSE), week, one, other, WET)
        self.check_later((TRUE, FALSE), week, other, one, WET)

    def test_what_is_alike_is_never_later(self):
        for week, (p, q), measure in SOME:
            if alike(week, p, q, measure):
                self.check_later(None, week, p, q, measure)
                self.check_later(None, week, q, p, measure)

    def test_no_rain_at_all_and_weeks_without_matches(self):
        for p, q in PAIRS:
            self.check_later(None, WEEK, p, q, Measure(0, 3))
            self.check_later(None, Week(3, ()), p, q, Measure(2, 2))

    def test_against_all_short_rain(self):
        found = 0
        for week, (one, other), measure in SOME:
            for p, q in ((one, other), (other, one)):
                with self.subTest(told(week, p, q, measure)):
                    rain = later(week, p, q, measure)
                    self.assertIs(never_later(week, p, q, measure), rain is None)
                    self.check_shortest(rain, lambda there: days_later(week, p, q, there), measure, 6)
                    found += rain is not None
        self.assertTrue(100 < found < len(SOME))

    def test_against_the_model(self):
        for week, (p, q), measure in SOME[::5]:
            rain = later(week, p, q, measure)
            if rain is not None:
                days = late_days(season(week, p, rain)[0], season(week, q, rain)[0])
                self.assertEqual(set(days), {len(rain) - 1}, told(week, p, q, measure))


class TestArguments(unittest.TestCase):
    def test_by_name(self):
        arguments = {"measure": WET, "q": DENSE, "p": RULE, "week": WEEK}
        for compare in (alike, parting, never_later, later):
            with self.subTest(compare.__name__):
                self.assertEqual(compare(**arguments), compare(WEEK, RULE, DENSE, WET))
        self.assertIs(order_counts(measure=WET, rule=RULE, week=WEEK), False)

    def test_nothing_is_changed_and_the_same_is_returned(self):
        week, p, q, measure = Week(4, WEEK.matches), DENSE.but(), RULE.but(), Measure(1, 3)
        first = [compare(week, p, q, measure) for compare in (alike, parting, never_later, later)]
        order_counts(week, q, measure)
        for compare in (later, never_later, parting, alike):
            compare(week, q, p, measure)
        self.assertEqual([compare(week, p, q, measure) for compare in (alike, parting, never_later, later)], first)
        self.assertEqual((week, p, q, measure), (WEEK, DENSE, RULE, WET))


if __name__ == "__main__":
    unittest.main()
