"""Tests of [7] and [9], how a season is played, and of what [1] to [3] say of it."""

import itertools
import unittest

from rainweeks.errors import InvalidRain
from rainweeks.plays import Played, play
from rainweeks.rules import Rule
from rainweeks.weeks import Week
from tests.cases import RULE, WEEK, WEEKS, rules
from tests.model import season
from tests.values import no_bools, no_sequences, objects

DRY, WET = False, True
ALL = (0, 1, 2, 3, 4, 5)


def parts(done):
    return (done.played, done.lost, done.waiting)


def is_plain(thing):
    """Whether a thing is a tuple of plain tuples and of integers that are no bools."""
    return all(type(part) is int or (type(part) is tuple and is_plain(part)) for part in thing)


class TestCase(unittest.TestCase):
    def check(self, week, rule, rain, played=None, lost=(), waiting=()):
        """Checks both orders, as the document says that none counts."""
        for order in ("first", "last"):
            done = play(week, rule.but(order=order), rain)
            with self.subTest(rule=str(rule), rain=rain, order=order):
                if played is not None:
                    self.assertEqual(done.played, played)
                self.assertEqual(done.lost, lost)
                self.assertEqual(done.waiting, waiting)


class TestDocument(unittest.TestCase):
    def test_examples(self):
        done = play(WEEK, RULE.but(gap=1), [True, False, True, False, False])
        self.assertEqual(done.played, ((), ((0, 0),), (), ((2, 1),), ((4, 0),)))
        self.assertEqual((done.lost, done.waiting), ((), ()))
        self.assertEqual(play(WEEK, RULE, [True, False]).lost, ((0, 0, 0),))
        self.assertEqual(play(WEEK, RULE.but(gap=1), [True]).waiting, ((1, 0, 0),))


class TestDryDays(TestCase):
    def test_all_is_played_on_its_own_day(self):
        week = Week(3, [(2, "a", "b"), (0, "c", "d"), (2, "d", "c")])
        self.check(week, Rule(1, 2, ALL), [DRY] * 6, (((0, 1),), (), ((2, 0), (2, 2)), ((3, 1),), (), ((5, 0), (5, 2))))

    def test_the_empty_rain(self):
        for rain in ([], ()):
            for week in WEEKS:
                self.check(week, RULE, rain, ())

    def test_a_week_without_matches(self):
        for days in (1, 2, 5):
            self.check(Week(days, ()), RULE, [WET, DRY, WET, WET], ((), (), (), ()))

    def test_days_without_matches_may_be_rainy(self):
        self.check(Week(3, [(1, "a", "b")]), Rule(1, 1, ()), [WET, DRY, WET], ((), ((1, 0),), ()))


class TestPutOff(TestCase):
    def test_to_the_first_day(self):
        self.check(Week(5, [(0, "a", "b")]), Rule(1, 6, ALL), [WET, DRY], ((), ((0, 0),)))
        self.check(Week(5, [(0, "a", "b")]), Rule(2, 6, ALL), [WET], ((),), (), ((1, 0, 0),))

    def test_twice(self):
        rain = [WET, WET, DRY, DRY]
        self.check(WEEK, RULE.but(gap=1), rain, ((), (), ((2, 1),), ((0, 0),)))
        self.check(WEEK, RULE.but(gap=1), rain[:2], ((), ()), (), ((3, 0, 0),))

    def test_twice_and_then_lost(self):
        played = ((), (), ((2, 1),), ())
        self.check(WEEK, RULE.but(gap=1), [WET, WET, DRY, WET], played, ((3, 0, 0),), ())

    def test_many_times(self):
        week = Week(5, [(0, "a", "b")])
        for days in range(1, 5):
            self.check(week, Rule(1, 6, ALL), [WET] * days, ((),) * days, (), ((days, 0, 0),))

    def test_the_window_counts_from_the_own_day(self):
        week = Week(5, [(0, "a", "b")])
        self.check(week, Rule(1, 2, ALL), [WET, WET], None, (), ((2, 0, 0),))
        self.check(week, Rule(1, 2, ALL), [WET, WET, WET], None, ((2, 0, 0),), ())

    def test_the_last_day_of_the_window_and_the_day_behind_it(self):
        week = Week(5, [(1, "a", "b")])
        for window in (1, 2, 3):
            last = (1 + window,)
            self.check(week, Rule(1, window, last), [DRY, WET], None, (), ((1 + window, 1, 0),))
            self.check(week, Rule(1, window, (2 + window,)), [DRY, WET], None, ((1, 1, 0),), ())

    def test_windows_beyond_a_week(self):
        week = Week(2, [(1, "a", "b")])
        self.check(week, Rule(1, 6, (0,)), [DRY, WET, WET], None, (), ((4, 1, 0),))
        self.check(week, Rule(1, 6, (0,)), [DRY, WET, WET, WET], None, (), ((4, 1, 0), (6, 3, 0)))
        self.check(week, Rule(1, 6, (0,)), [DRY, WET, WET, WET, WET], None, ((4, 1, 0),), ((6, 3, 0),))
        self.check(week, Rule(1, 6, (0,)), [DRY, WET, WET, WET, DRY], ((),) * 4 + (((1, 0),),), (), ((6, 3, 0),))

    def test_a_whole_week_on_is_the_next_one_of_the_same_match(self):
        week = Week(5, [(0, "a", "b")])
        self.check(week, Rule(1, 6, (0,)), [WET], None, ((0, 0, 0),), ())
        self.check(week, Rule(1, 6, (0, 1)), [WET, WET], None, (), ((6, 0, 0),))
        self.check(week, Rule(2, 6, (0, 1)), [WET, WET], None, ((1, 0, 0),), ())
        self.check(week, Rule(1, 5, (0, 1)), [WET, WET], None, ((1, 0, 0),), ())


class TestLet(TestCase):
    def test_days_that_are_let(self):
        week = Week(5, [(0, "a", "b")])
        for day in range(1, 5):
            self.check(week, Rule(1, 6, (day,)), [WET], None, (), ((day, 0, 0),))
            self.check(week, Rule(1, 6, (day, 4)), [WET], None, (), ((day, 0, 0),))

    def test_days_of_the_next_week(self):
        self.check(Week(5, [(3, "a", "b")]), Rule(1, 6, (1,)), [DRY, DRY, DRY, WET], None, (), ((6, 3, 0),))
        self.check(Week(5, [(3, "a", "b")]), Rule(1, 6, (0, 2)), [DRY, DRY, DRY, WET], None, (), ((5, 3, 0),))

    def test_none_let(self):
        for week in (WEEK, Week(5, [(0, "ann", "b"), (2, "c", "d")])):
            for window in (1, 6):
                self.check(week, Rule(1, window, ()), [WET, DRY, WET], ((), (), ()), ((0, 0, 0), (2, 2, 1)), ())

    def test_days_that_the_week_does_not_have(self):
        week = Week(4, [(0, "a", "b")])
        self.check(week, Rule(1, 6, (4, 5, 6, 99)), [WET], None, ((0, 0, 0),), ())
        self.check(week, Rule(1, 6, (2, 5, 6, 99)), [WET], None, (), ((2, 0, 0),))


class TestGap(TestCase):
    def test_another_match_of_a_side_on_the_day(self):
        for other in (("a", "c"), ("c", "a"), ("b", "c"), ("c", "b"), ("a", "b"), ("b", "a")):
            week = Week(4, [(0, "a", "b"), (1, *other)])
            self.check(week, Rule(1, 2, ALL), [WET], None, (), ((2, 0, 0),))

    def test_matches_of_other_sides_bar_nothing(self):
        week = Week(4, [(0, "a", "b"), (1, "c", "d"), (2, "d", "e")])
        for gap in (1, 2):
            self.check(week, Rule(gap, 2, ALL), [WET], None, (), ((1, 0, 0),))

    def test_a_gap_of_two_before(self):
        week = Week(5, [(0, "a", "b"), (1, "b", "c")])
        self.check(week, Rule(2, 6, (2, 3)), [WET], None, (), ((3, 0, 0),))
        self.check(week, Rule(1, 6, (2, 3)), [WET], None, (), ((2, 0, 0),))

    def test_a_gap_of_two_behind(self):
        week = Week(5, [(0, "a", "b"), (3, "b", "c")])
        self.check(week, Rule(2, 6, (2,)), [WET], None, ((0, 0, 0),), ())
        self.check(week, Rule(1, 6, (2,)), [WET], None, (), ((2, 0, 0),))
        self.check(week, Rule(2, 6, (1, 2)), [WET], None, (), ((1, 0, 0),))

    def test_a_gap_of_two_from_the_next_week(self):
        week = Week(5, [(0, "a", "b"), (2, "a", "c")])
        self.check(week, Rule(2, 4, ALL), [WET], None, ((0, 0, 0),), ())
        self.check(week, Rule(1, 4, ALL), [WET], None, (), ((1, 0, 0),))
        self.check(Week(6, week.matches), Rule(2, 4, ALL), [WET], None, (), ((4, 0, 0),))

    def test_a_match_behind_the_window_bars_too(self):
        week = Week(5, [(0, "a", "b"), (2, "a", "c")])
        self.check(week, Rule(2, 1, ALL), [WET], None, ((0, 0, 0),), ())
        self.check(Week(5, [(0, "a", "b"), (3, "a", "c")]), Rule(2, 1, ALL), [WET], None, (), ((1, 0, 0),))

    def test_what_was_played_ahead_does_not_matter(self):
        week = Week(5, [(0, "a", "b"), (1, "a", "c")])
        self.check(week, Rule(2, 2, ALL), [DRY, WET], (((0, 0),), ()), (), ((2, 1, 1),))

    def test_the_match_does_not_bar_itself(self):
        self.check(Week(5, [(0, "a", "b")]), Rule(2, 1, ALL), [WET], None, (), ((1, 0, 0),))
        self.check(Week(5, [(0, "a", "b")]), Rule(2, 2, ALL), [WET, WET], None, (), ((2, 0, 0),))

    def test_what_was_put_off_ahead_bars(self):
        week = Week(5, [(0, "a", "b"), (1, "a", "c")])
        self.check(week, Rule(1, 4, ALL), [WET], None, (), ((2, 0, 0),))
        self.check(week, Rule(1, 4, ALL), [WET, WET], None, (), ((2, 0, 0), (3, 1, 1)))
        self.check(week, Rule(2, 6, ALL), [WET], None, (), ((3, 0, 0),))
        self.check(week, Rule(2, 6, ALL), [WET, WET], None, ((1, 1, 1),), ((3, 0, 0),))
        self.check(week, Rule(1, 1, ALL), [WET, WET], None, ((0, 0, 0),), ((2, 1, 1),))

    def test_what_was_put_off_bars_by_either_side(self):
        for other in (("a", "c"), ("c", "a"), ("b", "c"), ("c", "b")):
            week = Week(5, [(0, "a", "b"), (1, *other)])
            self.check(week, Rule(1, 4, (2, 3)), [WET, WET], None, (), ((2, 0, 0), (3, 1, 1)))

    def test_what_is_lost_keeps_no_day(self):
        week = Week(5, [(0, "a", "b"), (1, "a", "c")])
        self.check(week, Rule(1, 2, (2,)), [WET, WET], None, ((1, 1, 1),), ((2, 0, 0),))
        self.check(week, Rule(1, 2, (2, 3)), [WET, WET, WET], None, ((2, 0, 0),), ((3, 1, 1),))
        played = ((), (), (), ((1, 1),), (), ((5, 0),))
        self.check(week, Rule(1, 2, (2, 3)), [WET, WET, WET, DRY, DRY, DRY], played, ((2, 0, 0),))


class TestSeveral(TestCase):
    def test_several_of_one_own_day(self):
        week = Week(3, [(0, "a", "b"), (0, "c", "d")])
        self.check(week, Rule(1, 2, ALL), [WET], None, (), ((1, 0, 0), (1, 0, 1)))
        self.check(week, Rule(1, 2, ALL), [WET, WET], None, (), ((2, 0, 0), (2, 0, 1)))
        self.check(week, Rule(1, 2, ALL), [WET, DRY], ((), ((0, 0), (0, 1))))

    def test_several_of_unlike_own_days(self):
        week = Week(4, [(1, "a", "b"), (0, "c", "d")])
        self.check(week, Rule(1, 2, ALL), [WET, WET], None, (), ((2, 0, 1), (2, 1, 0)))
        self.check(week, Rule(1, 2, ALL), [WET, WET, DRY], ((), (), ((0, 1), (1, 0))))
        self.check(week, Rule(1, 1, ALL), [WET, WET], None, ((1, 0, 1),), ((2, 1, 0),))

    def test_several_are_lost_on_one_day(self):
        week = Week(3, [(0, "a", "b"), (0, "c", "d"), (0, "e", "f")])
        self.check(week, Rule(1, 2, ()), [WET], ((),), ((0, 0, 0), (0, 0, 1), (0, 0, 2)))
        week = Week(4, [(1, "a", "b"), (0, "c", "d")])
        self.check(week, Rule(1, 6, (1,)), [WET, WET], None, ((1, 1, 0),), ((5, 0, 1),))
        self.check(week, Rule(1, 3, (1,)), [WET, WET], None, ((1, 0, 1), (1, 1, 0)))

    def test_what_is_lost_on_several_days_ascends(self):
        week = Week(2, [(1, "a", "b"), (0, "a", "c")])
        self.check(week, Rule(1, 6, ALL), [WET] * 3, ((),) * 3, ((0, 0, 1), (1, 1, 0), (2, 2, 1)))

    def test_lost_on_a_day_behind_others(self):
        week = Week(4, [(0, "a", "b"), (1, "c", "d")])
        rain = [WET, WET, WET]
        self.check(week, Rule(1, 2, (1, 2)), rain, None, ((2, 0, 0), (2, 1, 1)))

    def test_what_waits_behind_the_last_day(self):
        week = Week(3, [(0, "a", "b")])
        self.check(week, Rule(1, 5, (2,)), [WET], ((),), (), ((2, 0, 0),))
        self.check(week, Rule(1, 5, (2,)), [WET, DRY], ((), ()), (), ((2, 0, 0),))
        self.check(week, Rule(1, 5, (2,)), [WET, DRY, DRY], ((), (), ((0, 0),)), (), ())
        self.check(week, Rule(1, 5, (2,)), [WET, WET, WET], ((), (), ()), (), ((5, 0, 0),))

    def test_the_same_match_of_two_weeks_waits(self):
        week = Week(2, [(0, "a", "b"), (0, "c", "d")])
        self.check(Week(1, [(0, "a", "b")]), Rule(1, 6, ALL), [WET] * 2, None, ((0, 0, 0), (1, 1, 0)))
        waiting = ((3, 0, 0), (3, 0, 1), (5, 2, 0), (5, 2, 1))
        self.check(week, Rule(1, 6, (1,)), [WET, WET, WET], None, (), waiting)


class TestAgainstTheModel(unittest.TestCase):
    def test_all_short_rain(self):
        for week, rule in itertools.product(WEEKS, rules((1, 3, 6))):
            for rain in itertools.product((DRY, WET), repeat=6):
                self.assertEqual(parts(play(week, rule, rain)), season(week, rule, rain), (str(week), str(rule), rain))

    def test_long_rain(self):
        for week, rule in itertools.product(WEEKS, rules((2, 6))):
            for step in (2, 3, 7):
                rain = [day * day % step < step // 2 or day % 11 == 3 for day in range(40)]
                self.assertEqual(parts(play(week, rule, rain)), season(week, rule, rain), (str(week), str(rule), rain))

    def test_both_orders_play_the_same(self):
        for week, rule in itertools.product(WEEKS, rules((1, 4, 6))):
            for rain in itertools.product((DRY, WET), repeat=5):
                one, other = rule.but(order="first"), rule.but(order="last")
                self.assertEqual(parts(play(week, one, rain)), parts(play(week, other, rain)))

    def test_a_beginning_plays_the_same(self):
        rain = [WET, DRY, WET, WET, WET, DRY, DRY, WET, WET, DRY, WET, DRY]
        for week, rule in itertools.product(WEEKS, rules((2, 6))):
            whole = play(week, rule, rain)
            for length in range(len(rain)):
                done = play(week, rule, rain[:length])
                self.assertEqual(done.played, whole.played[:length])
                self.assertEqual(done.lost, tuple(row for row in whole.lost if row[0] < length))


class TestArguments(unittest.TestCase):
    def check(self, at, rain):
        with self.subTest(rain=rain), self.assertRaises(InvalidRain) as caught:
            play(WEEK, RULE, rain)
        self.assertEqual(caught.exception.at, at)

    def test_no_sequence(self):
        for rain in no_sequences():
            self.check(0, rain)

    def test_the_first_thing_that_is_no_bool(self):
        for thing in no_bools():
            self.check(0, [thing])
            self.check(2, (WET, DRY, thing, thing))
        self.check(0, [0])
        self.check(1, [DRY, 1])

    def test_lists_and_tuples(self):
        rain = [WET, DRY, WET, DRY]
        self.assertEqual(parts(play(WEEK, RULE, rain)), parts(play(WEEK, RULE, tuple(rain))))

    def test_by_name(self):
        self.assertEqual(play(rain=[WET], rule=RULE.but(gap=1), week=WEEK).waiting, ((1, 0, 0),))

    def test_lists_that_are_changed_behind_the_call(self):
        rain, let, matches = [WET, DRY], [1, 3], [(0, "ann", "bob")]
        week, rule = Week(4, matches), Rule(1, 4, let)
        done = play(week, rule, rain)
        self.assertEqual((rain, let, matches), ([WET, DRY], [1, 3], [(0, "ann", "bob")]))
        matches.clear()
        let.clear()
        rain[0] = DRY
        self.assertEqual(parts(done), (((), ((0, 0),)), (), ()))
        self.assertEqual(parts(play(week, rule, [WET, DRY])), parts(done))

    def test_week_and_rule_stay(self):
        week, rule = Week(4, WEEK.matches), RULE.but(gap=1)
        play(week, rule, [WET] * 9)
        self.assertEqual((week, rule), (WEEK, RULE.but(gap=1)))


class TestPlayed(unittest.TestCase):
    def test_made_by_play(self):
        self.assertIsInstance(play(WEEK, RULE, []), Played)

    def test_all_is_plain_tuples(self):
        for rain in ([], [WET], [WET, WET, DRY, WET], [DRY, WET, WET, DRY]):
            done = play(WEEK, RULE.but(gap=1), rain)
            for part in parts(done):
                self.assertIs(type(part), tuple)
                self.assertTrue(is_plain(part))

    def test_the_same_call_returns_an_equal_result(self):
        first = play(WEEK, RULE, [WET, DRY, WET])
        play(WEEK, RULE.but(gap=1), [WET] * 7)
        again = play(WEEK, RULE, [WET, DRY, WET])
        self.assertEqual(parts(first), parts(again))
        self.assertIs(first == again, True)
        self.assertIs(first != again, False)

    def test_unlike_ones_are_not_equal(self):
        rule = RULE.but(gap=1)
        seasons = [play(WEEK, rule, rain) for rain in ([], [DRY], [WET], [WET, WET], [WET, WET, DRY, WET])]
        seasons += [play(WEEK, RULE, [WET])]
        for at, one in enumerate(seasons):
            for place, other in enumerate(seasons):
                with self.subTest(at=at, place=place):
                    self.assertIs(one == other, at == place)

    def test_unlike_in_one_attribute_alone(self):
        week, rule = Week(4, [(0, "a", "b")]), Rule(1, 1, ())
        nothing, lost = play(Week(4, ()), rule, [WET]), play(week, rule, [WET])
        waiting = play(week, rule.but(let=[1]), [WET])
        self.assertEqual([parts(done) for done in (nothing, lost)], [(((),), (), ()), (((),), ((0, 0, 0),), ())])
        self.assertEqual(parts(waiting), (((),), (), ((1, 0, 0),)))
        for one, other in itertools.permutations([nothing, lost, waiting], 2):
            self.assertIs(one == other, False)
            self.assertIs(one != other, True)

    def test_equal_to_nothing_of_another_class(self):
        done = play(WEEK, RULE, [])
        others = [parts(done), list(parts(done)), (), None, True, 0]
        for other in others + [thing for thing in objects() if not isinstance(thing, Played)]:
            with self.subTest(other=other):
                self.assertIs(done == other, False)
                self.assertIs(other == done, False)

    def test_not_iterable(self):
        done = play(WEEK, RULE, [WET])
        self.assertRaises(TypeError, iter, done)
        self.assertRaises(TypeError, list, done)
        with self.assertRaises(TypeError):
            () in done


if __name__ == "__main__":
    unittest.main()
