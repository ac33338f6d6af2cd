"""Tests of [12], papers, and of what [1] to [3] say of them."""

import itertools
import unittest

from rainweeks.deciding import fails, standings
from rainweeks.papers import paper, paper_holds
from rainweeks.rains import Measure
from rainweeks.rules import Rule
from rainweeks.weeks import Week
from tests.cases import MEASURES, RULE, WEEK, WEEKS, WET, rules
from tests.model import closed, loses, of_the_form
from tests.values import no_bools, no_integers, no_numbers, no_sequences, nested, objects, sequences

DENSE = RULE.but(gap=1)
PAPER = standings(WEEK, DENSE, WET)
# It never comes, as day 0 is rainy ahead of it: but all that can be behind it is in PAPER.
STRAY = (1, (), (False, True))
ALL = (0, 1, 2, 3, 4)


def told(week, rule, measure):
    return f"{week} / {rule} / {measure.most} in {measure.span}"


def cases(windows):
    return itertools.product(WEEKS, rules(windows), MEASURES)


def twisted(value, twist):
    """The value, and what comes of it if one part at any depth is twisted."""
    found = list(twist(value))
    if isinstance(value, tuple):
        for at, thing in enumerate(value):
            found += [(*value[:at], other, *value[at + 1 :]) for other in twisted(thing, twist)]
    return found


class TestCase(unittest.TestCase):
    def check(self, wanted, value, week=WEEK, rule=DENSE, measure=WET):
        with self.subTest(value=value):
            self.assertIs(paper_holds(week, rule, measure, value), wanted)


class TestDocument(TestCase):
    def test_examples(self):
        self.assertIsNone(paper(WEEK, RULE, WET))
        self.check(True, paper(WEEK, DENSE, WET))
        self.check(False, (), rule=RULE)


class TestPaper(TestCase):
    def test_none_where_a_match_can_be_lost(self):
        for week, rule, measure in cases((1, 4)):
            with self.subTest(told(week, rule, measure)):
                can_be_lost = loses(week, rule, measure)
                self.assertIs(paper(week, rule, measure) is None, can_be_lost)
                self.assertIs(fails(week, rule, measure), can_be_lost)

    def test_a_paper_shows_that_none_is(self):
        for week, rule, measure in cases((1, 3, 6)):
            found = paper(week, rule, measure)
            if found is not None:
                with self.subTest(told(week, rule, measure)):
                    self.assertIs(type(found), tuple)
                    self.assertEqual(len(found), len(set(found)))
                    self.assertIn((0, (), (False,) * (measure.span - 1)), found)
                    self.assertEqual(len(closed(week, rule, measure, found)), len(found))

    def test_a_paper_holds_in_any_order(self):
        for week, rule, measure in cases((2, 6)):
            found = paper(week, rule, measure)
            if found is not None:
                half = len(found) // 2
                with self.subTest(told(week, rule, measure)):
                    self.assertIs(paper_holds(week, rule, measure, found), True)
                    self.assertIs(paper_holds(week, rule, measure, found[::-1]), True)
                    self.assertIs(paper_holds(week, rule, measure, found[half:] + found[:half]), True)

    def test_a_paper_of_a_rule_does_not_hold_where_a_match_can_be_lost(self):
        self.check(False, PAPER, rule=RULE)
        self.check(False, PAPER, rule=DENSE.but(let=()))
        self.check(False, PAPER, rule=DENSE.but(let=(3,)))
        self.check(False, PAPER, measure=Measure(2, 3))
        for week, rule, measure in cases((1, 4)):
            if fails(week, rule, measure):
                with self.subTest(told(week, rule, measure)):
                    self.assertIs(paper_holds(week, rule, measure, standings(week, rule, measure)), False)

    def test_papers_that_are_only_of_another_week_rule_or_measure(self):
        self.check(False, PAPER, week=Week(4, WEEK.matches[:1]), rule=DENSE.but(window=1))
        self.check(False, PAPER, week=Week(5, WEEK.matches))
        self.check(False, PAPER, week=Week(4, WEEK.matches[::-1]))
        self.check(False, PAPER, measure=Measure(1, 4))
        self.check(False, PAPER, measure=Measure(1, 2))
        # A rule by which nothing else is done has the same papers.
        self.check(True, PAPER, rule=DENSE.but(order="last", window=1))
        self.check(True, PAPER, rule=DENSE.but(let=(1, 3, 7)))
        self.check(True, PAPER, week=Week(4, [(0, "x", "y"), (2, "v", "w")]))

    def test_span_one_and_weeks_without_matches(self):
        self.check(True, ((0, (), ()),), Week(1, ()), RULE, Measure(1, 1))
        self.check(True, ((1, (), ()), (0, (), ())), Week(2, ()), RULE, Measure(0, 1))
        self.check(False, ((0, (), ()),), Week(2, ()), RULE, Measure(1, 1))
        self.check(True, ((0, (), ()),), Week(1, [(0, "a", "b")]), RULE, Measure(0, 1))
        self.check(False, ((0, (), ()),), Week(1, [(0, "a", "b")]), RULE, Measure(1, 1))


class TestChangedPapers(TestCase):
    def test_one_standing_left_out(self):
        for at in range(len(PAPER)):
            self.check(False, PAPER[:at] + PAPER[at + 1 :])
            self.check(False, PAPER[at:][:1])

    def test_one_standing_twice(self):
        for standing in PAPER:
            self.check(False, (*PAPER, standing))
            self.check(False, (standing, *PAPER))

    def test_one_more_that_never_comes(self):
        self.assertNotIn(STRAY, PAPER)
        self.check(True, (*PAPER, STRAY))
        self.check(True, (STRAY, *PAPER))
        self.check(False, (STRAY, *PAPER, STRAY))

    def test_several_more_that_lead_to_each_other(self):
        week, rule, measure = Week(3, [(0, "a", "b")]), Rule(1, 2, ALL), Measure(1, 3)
        base = standings(week, rule, measure)
        chain = ((1, ((1, 1, 0),), (False, True)), (2, ((0, 2, 0),), (True, False)))
        self.assertFalse([standing for standing in chain if standing in base])
        self.check(True, base + chain, week, rule, measure)
        self.check(True, chain + base, week, rule, measure)
        self.check(True, base + chain[1:], week, rule, measure)
        self.check(False, base + chain[:1], week, rule, measure)
        # With the rain further back day 2 can be rainy, and the match is lost.
        chain = ((1, ((1, 1, 0),), (True, False)), (2, ((0, 2, 0),), (False, False)))
        self.check(False, base + chain, week, rule, measure)

    def test_one_more_that_is_not_closed(self):
        # The match would wait for day 4, which never comes either.
        stray = (3, ((1, 3, 0),), (False, False))
        self.check(False, (*PAPER, stray))
        # By a dry day all is well; by a rainy one the match is lost.
        self.check(False, (*PAPER, (0, ((0, 4, 0),), (False, False))))
        # Here no rainy day is let, so that nothing is lost.
        self.check(True, (*PAPER, (0, ((0, 4, 0),), (True, False))))

    def test_another_day_of_the_week(self):
        for at, (day, waiting, rain) in enumerate(PAPER):
            for other in range(4):
                if other != day:
                    self.check(False, (*PAPER[:at], (other, waiting, rain), *PAPER[at + 1 :]))

    def test_another_triple(self):
        for at, (day, waiting, rain) in enumerate(PAPER):
            others = [(), ((0, 1, 0),), ((0, 1, 1),), ((1, 1, 0),), ((0, 5, 0),), ((0, 1, 0), (0, 1, 1)), ((0, 3, 1),)]
            for other in others:
                if other != waiting:
                    self.check(False, (*PAPER[:at], (day, other, rain), *PAPER[at + 1 :]))

    def test_another_rain(self):
        rains = [(False, False), (False, True), (True, False), (True, True)]
        for at, (day, waiting, rain) in enumerate(PAPER):
            for other in rains:
                if other != rain:
                    self.check(False, (*PAPER[:at], (day, waiting, other), *PAPER[at + 1 :]))

    def test_all_that_can_be_in_a_paper(self):
        matches = [(0, "a", "b"), (1, "b", "c"), (0, "c", "d")]
        small = [Week(2, matches[:1]), Week(2, matches[:2]), Week(3, matches[::2])]
        for week, rule, measure in itertools.product(small, rules((2,)), MEASURES):
            with self.subTest(told(week, rule, measure)):
                every = list(of_the_form(week, rule, measure))
                best = closed(week, rule, measure, every)
                first = (0, (), (False,) * (measure.span - 1))
                self.assertIs(first in best, not fails(week, rule, measure))
                self.assertIs(paper_holds(week, rule, measure, tuple(best)), first in best)
                for standing in every:
                    if standing not in best:
                        self.assertIs(paper_holds(week, rule, measure, (*best, standing)), False)

    def test_where_it_counts_in_which_order_matches_are_put_off(self):
        # Both wait for one day, which never comes to be as they have a side in common.
        week, rule, measure = Week(5, [(0, "a", "b"), (1, "a", "c")]), Rule(1, 3, (3, 4)), Measure(1, 4)
        more = (
            (2, ((0, 1, 1), (0, 2, 0)), (False, False, False)),
            (3, ((0, 3, 0), (1, 2, 1)), (False, False, True)),
            (4, ((0, 3, 1),), (False, True, False)),
        )
        base = standings(week, rule, measure)
        self.assertEqual(base, standings(week, rule.but(order="last"), measure))
        self.check(True, base + more, week, rule, measure)
        self.check(False, base + more, week, rule.but(order="last"), measure)
        self.check(False, base + more[:2], week, rule, measure)


class TestForm(TestCase):
    def check_more(self, standing):
        """Checks that a paper does not hold with one more thing that has not the form."""
        self.check(False, (*PAPER, standing))
        self.check(False, (standing, *PAPER))

    def test_lists_in_the_place_of_tuples(self):
        self.check(False, list(PAPER))
        for standing in (*PAPER, STRAY):
            for value in twisted(standing, lambda part: [list(part)] if isinstance(part, tuple) else []):
                self.check(False, (*(there for there in PAPER if there != standing), value))

    def test_bools_in_the_place_of_integers(self):
        def bools(part):
            return [bool(part)] if type(part) is int and part < 2 else []

        def integers(part):
            return [int(part)] if type(part) is bool else []

        for standing in (*PAPER, STRAY):
            for value in twisted(standing, bools) + twisted(standing, integers):
                self.assertEqual(value, standing)
                self.check(False, (*(there for there in PAPER if there != standing), value))

    def test_any_values_in_the_place_of_a_paper(self):
        values = [*no_numbers(), *no_sequences(), *sequences(), *objects(), nested((), 8), nested(PAPER[0], 6)]
        for value in [*values, PAPER[0], (PAPER[0],), (PAPER,), [PAPER], list(PAPER), str(PAPER), ((),), ((), ())]:
            self.check(False, value)
            self.check(False, value, Week(1, ()), Rule(1, 1, ()), Measure(1, 1))

    def test_any_values_in_the_place_of_a_standing(self):
        for value in [*no_numbers(), *no_sequences(), *sequences(), nested((), 7), nested([], 7), PAPER, (PAPER[0],)]:
            self.check_more(value)
        for value in [(1, ()), (1, (), (False, True), ()), (1,), ((), 1, (False, True)), (1, (False, True), ())]:
            self.check_more(value)

    def test_any_values_in_the_place_of_a_day(self):
        for day in [*no_numbers(), 4, 5, 9, 10**30]:
            self.check_more((day, *STRAY[1:]))

    def test_any_values_in_the_place_of_what_waits(self):
        values = [thing for thing in no_numbers() if thing != () or isinstance(thing, list)]
        for waiting in [*values, *no_sequences(), [], nested((), 6), ((),), (0, 1, 0), ((0, 1),), ((0, 1, 0, 0),)]:
            self.check_more((1, waiting, (False, True)))
        for thing in [*no_numbers(), *no_sequences(), *sequences(), nested((), 5)]:
            self.check_more((3, (thing,), (True, False)))

    def test_any_values_in_a_triple(self):
        fine = (0, ((0, 4, 0),), (True, False))
        self.check(True, (*PAPER, fine))
        for value in [*no_numbers(), nested((), 4), 10**30]:
            for at in range(3):
                wait = [0, 4, 0]
                wait[at] = value
                self.check_more((0, (tuple(wait),), (True, False)))

    def test_any_values_in_the_place_of_rain(self):
        for rain in [*no_numbers(), *no_sequences(), nested((), 6), (), (False,), (False,) * 3, [False, True]]:
            self.check_more((1, (), rain))
        for value in [*no_bools(), nested((), 5)]:
            self.check_more((1, (), (False, value)))
            self.check_more((1, (), (value, True)))

    def test_matches_that_the_week_does_not_have(self):
        for match in (2, 3, 4, 10**30, -1, -2):
            self.check_more((0, ((0, 4, match),), (True, False)))
        self.check_more((0, ((0, 4, 0),), (True, True)))

    def test_own_days_that_do_not_fit(self):
        for match, wanted in ((0, 4), (1, 2)):
            for days_ago in range(1, 5):
                standing = (0, ((0, days_ago, match),), (True, False))
                self.check(days_ago == wanted, (*PAPER, standing))

    def test_own_days_of_today_and_later(self):
        for days_ago in (0, -1, -4):
            self.check_more((0, ((0, days_ago, 0),), (True, False)))
            self.check_more((2, ((0, days_ago, 1),), (True, False)))

    def test_too_late_for_the_window(self):
        week, measure = Week(4, [(0, "a", "b")]), Measure(0, 1)
        base = tuple((day, (), ()) for day in range(4))
        for window in range(1, 7):
            rule = Rule(1, window, ALL)
            for days_ago in (1, 2, 3, 4, 5):
                for days_ahead in range(7):
                    chain = [
                        ((days_ago + day) % 4, ((days_ahead - day, days_ago + day, 0),), ())
                        for day in range(days_ahead + 1)
                    ]
                    self.check(days_ahead + days_ago <= window, (*base, *chain), week, rule, measure)

    def test_triples_that_do_not_ascend(self):
        week, rule, measure = Week(3, [(0, "a", "b"), (0, "c", "d"), (2, "e", "f")]), Rule(1, 6, ALL), Measure(0, 1)
        base = tuple((day, (), ()) for day in range(3))
        for waits in [((0, 1, 0), (0, 1, 1)), ((0, 1, 0), (0, 2, 2)), ((0, 1, 0), (0, 4, 0)), ((0, 1, 1), (0, 4, 0))]:
            self.check(True, (*base, (1, waits, ())), week, rule, measure)
            self.check(False, (*base, (1, waits[::-1], ())), week, rule, measure)
        self.check(False, (*base, (1, ((1, 1, 0), (0, 1, 1)), ()), (2, ((0, 2, 0),), ())), week, rule, measure)
        self.check(True, (*base, (1, ((0, 1, 1), (1, 1, 0)), ()), (2, ((0, 2, 0),), ())), week, rule, measure)

    def test_the_same_match_and_own_day_twice(self):
        week, rule, measure = Week(3, [(0, "a", "b"), (0, "c", "d")]), Rule(1, 6, ALL), Measure(0, 1)
        base = tuple((day, (), ()) for day in range(3)) + ((2, ((0, 2, 0),), ()),)
        self.check(True, (*base, (1, ((1, 1, 0),), ())), week, rule, measure)
        self.check(False, (*base, (1, ((0, 1, 0), (1, 1, 0)), ())), week, rule, measure)
        self.check(False, (*base, (1, ((1, 1, 0), (1, 1, 0)), ())), week, rule, measure)
        self.check(False, (*base, (1, ((0, 1, 0), (0, 1, 0)), ())), week, rule, measure)
        self.check(True, (*base, (1, ((0, 1, 1), (1, 1, 0)), ())), week, rule, measure)
        self.check(True, (*base, (1, ((0, 4, 0), (1, 1, 0)), ())), week, rule, measure)

    def test_rain_of_a_wrong_length_or_that_breaks_the_measure(self):
        for most, span in [(0, 1), (1, 1), (0, 3), (1, 3), (2, 3), (2, 4)]:
            week, rule, measure = Week(1, ()), Rule(1, 1, ()), Measure(most, span)
            base = standings(week, rule, measure)
            for length in range(6):
                for rain in itertools.product((False, True), repeat=length):
                    if (0, (), rain) not in base:
                        self.check(False, (*base, (0, (), rain)), week, rule, measure)


class TestArguments(TestCase):
    def test_by_name(self):
        self.assertEqual(paper(measure=WET, rule=DENSE, week=WEEK), paper(WEEK, DENSE, WET))
        self.assertIs(paper_holds(value=PAPER, measure=WET, rule=DENSE, week=WEEK), True)
        self.assertIs(paper_holds(value=None, measure=WET, rule=DENSE, week=WEEK), False)

    def test_nothing_is_changed(self):
        week, rule, measure = Week(4, WEEK.matches), DENSE.but(), Measure(1, 3)
        inner = [1, [], [False, True]]
        value = [*PAPER, inner]
        paper(week, rule, measure)
        paper_holds(week, rule, measure, value)
        paper_holds(week, rule, measure, (inner,))
        self.assertEqual((week, rule, measure), (WEEK, DENSE, WET))
        self.assertEqual((value[:-1], inner), (list(PAPER), [1, [], [False, True]]))

    def test_the_same_call_returns_an_equal_result(self):
        first = paper(WEEK, DENSE, WET)
        paper(WEEK, RULE, WET)
        paper_holds(WEEK, DENSE, WET, ())
        self.assertEqual(paper(WEEK, DENSE, WET), first)

    def test_great_papers(self):
        week = Week(4, [(3, "c", "b"), (0, "f", "b"), (2, "d", "e"), (1, "d", "a")])
        rule, measure = Rule(1, 6, ALL), Measure(1, 4)
        found = paper(week, rule, measure)
        self.check(True, found, week, rule, measure)
        dry, barred = Measure(0, 1), Rule(1, 5, ())
        many = tuple(of_the_form(week, barred, dry))
        self.assertEqual(len(many), 2880)
        self.check(True, many, week, barred, dry)
        self.check(False, many * 2, week, barred, dry)
        self.check(False, (*many[1:], many[1]), week, barred, dry)


if __name__ == "__main__":
    unittest.main()
