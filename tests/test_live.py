"""Tests of [17], live seasons, and of what [1] to [3] say of them."""

import itertools
import unittest

from rainweeks.errors import InvalidRain, Refused
from rainweeks.live import Live
from rainweeks.plays import play
from rainweeks.rules import Rule
from rainweeks.weeks import Week
from tests.cases import RULE, WEEK, WEEKS, rules
from tests.model import fresh_calendar, one_day
from tests.values import no_bools, no_sequences

DENSE = RULE.but(gap=1)
ALL = (0, 1, 2, 3, 4)
LONE = Week(5, [(0, "a", "b")])
DRY, WET = False, True


def parts(live):
    """All of a live season that can be seen, but for its week."""
    return live.rule, live.rain, live.played, live.lost, live.waiting, len(live)


def history(live):
    """All of a live season that can be seen, taken back deed by deed; nothing is left of it then."""
    seen = [parts(live)]
    while live.undo():
        seen.append(parts(live))
    return seen


def is_plain(value):
    """Whether a value is tuples down to integers and bools."""
    return type(value) in (int, bool) or (type(value) is tuple and all(is_plain(thing) for thing in value))


class Broken(Exception):
    """An error of a test."""


class TestCase(unittest.TestCase):
    def check_as_played(self, live, week, rule, rain):
        """Checks that a live season is what play says of a week, a rule and rain."""
        done = play(week, rule, rain)
        self.assertEqual((live.week, live.rule, live.rain), (week, rule, tuple(rain)))
        self.assertEqual((live.played, live.lost, live.waiting), (done.played, done.lost, done.waiting))
        self.assertTrue(is_plain((live.rain, live.played, live.lost, live.waiting)))

    def check_raises(self, error, at, function, *arguments):
        with self.subTest(arguments=arguments), self.assertRaises(error) as caught:
            function(*arguments)
        self.assertEqual(caught.exception.at, at)


class TestMaking(TestCase):
    def test_at_first(self):
        live = Live(WEEK, DENSE)
        self.assertIs(live.week, WEEK)
        self.assertIs(live.rule, DENSE)
        self.assertEqual(parts(live), (DENSE, (), (), (), (), 0))
        for name in ("week", "rule", "rain", "played", "lost", "waiting"):
            self.assertIn(name, vars(live))

    def test_by_name(self):
        self.check_as_played(Live(rule=DENSE, week=WEEK), WEEK, DENSE, [])

    def test_two_seasons_have_nothing_in_common(self):
        one, other = Live(WEEK, DENSE), Live(WEEK, DENSE)
        one.several([WET, DRY])
        self.check_as_played(other, WEEK, DENSE, [])
        self.assertEqual(len(other), 0)

    def test_not_iterable(self):
        live = Live(WEEK, DENSE)
        live.day(DRY)
        self.assertRaises(TypeError, iter, live)
        self.assertRaises(TypeError, list, live)
        with self.assertRaises(TypeError):
            DRY in live


class TestDay(TestCase):
    def test_day_by_day_against_play(self):
        for week, rule in itertools.product(WEEKS, rules((1, 4, 6))):
            for rain in [(WET, WET, DRY, WET, DRY, WET, WET), (DRY, WET, DRY, WET, WET, WET, DRY)]:
                live = Live(week, rule)
                for day, is_rainy in enumerate(rain):
                    done = live.day(is_rainy)
                    self.assertEqual(done, live.played[day])
                    self.check_as_played(live, week, rule, rain[: day + 1])
                    self.assertEqual(len(live), day + 1)

    def test_what_is_returned(self):
        live = Live(WEEK, DENSE)
        found = [live.day(is_rainy) for is_rainy in (WET, DRY, WET, DRY, DRY)]
        self.assertEqual(found, [(), ((0, 0),), (), ((2, 1),), ((4, 0),)])
        self.assertTrue(is_plain(tuple(found)))

    def test_by_name(self):
        self.assertEqual(Live(WEEK, DENSE).day(is_rainy=DRY), ((0, 0),))

    def test_any_values(self):
        live = Live(WEEK, DENSE)
        for day in range(3):
            before = parts(live)
            for value in [*no_bools(), *no_sequences()]:
                if not isinstance(value, bool):
                    self.check_raises(InvalidRain, day, live.day, value)
            for value in ([], (), [DRY], [WET], (WET,), "wet", "True"):
                self.check_raises(InvalidRain, day, live.day, value)
            self.assertEqual(parts(live), before)
            live.day(day != 1)

    def test_the_number_of_the_day_behind_several_and_undo(self):
        live = Live(WEEK, DENSE)
        live.several([WET, DRY, DRY])
        live.change(RULE)
        self.check_raises(InvalidRain, 3, live.day, 0)
        live.undo()
        self.check_raises(InvalidRain, 3, live.day, 1)
        live.undo()
        self.check_raises(InvalidRain, 0, live.day, None)

    def test_long_seasons(self):
        live, rain = Live(WEEK, DENSE), [day % 3 == 1 for day in range(70)]
        for is_rainy in rain:
            live.day(is_rainy)
        self.check_as_played(live, WEEK, DENSE, rain)
        self.assertEqual(len(live), 70)
        for day in range(70, 0, -1):
            self.check_as_played(live, WEEK, DENSE, rain[:day])
            self.assertIs(live.undo(), True)
        self.assertIs(live.undo(), False)


class TestSeveral(TestCase):
    def test_lists_and_tuples(self):
        for kind in (list, tuple):
            live = Live(WEEK, DENSE)
            found = live.several(kind([WET, DRY, WET]))
            self.assertEqual(found, ((), ((0, 0),), ()))
            self.assertTrue(is_plain(found))
            self.check_as_played(live, WEEK, DENSE, [WET, DRY, WET])
            self.assertEqual(live.several(kind([DRY, DRY])), (((2, 1),), ((4, 0),)))
            self.check_as_played(live, WEEK, DENSE, [WET, DRY, WET, DRY, DRY])
            self.assertEqual(len(live), 2)

    def test_none(self):
        live = Live(WEEK, DENSE)
        self.assertEqual((live.several([]), live.several(())), ((), ()))
        self.check_as_played(live, WEEK, DENSE, [])
        self.assertEqual(len(live), 2)

    def test_by_name(self):
        self.assertEqual(Live(WEEK, DENSE).several(rain=[DRY]), (((0, 0),),))

    def test_a_list_that_is_changed_behind_the_call(self):
        live, rain = Live(WEEK, DENSE), [WET, DRY]
        live.several(rain)
        self.assertEqual(rain, [WET, DRY])
        rain.clear()
        self.check_as_played(live, WEEK, DENSE, [WET, DRY])

    def test_something_that_is_no_bool(self):
        live = Live(WEEK, DENSE)
        live.several([DRY, WET])
        before = parts(live)
        for value in no_bools():
            self.check_raises(Refused, 0, live.several, [value])
            self.check_raises(Refused, 0, live.several, (value, WET, DRY))
            self.check_raises(Refused, 2, live.several, [WET, DRY, value])
            self.check_raises(Refused, 1, live.several, (WET, value, value, DRY))
            self.assertEqual(parts(live), before)
        live.day(DRY)
        self.check_as_played(live, WEEK, DENSE, [DRY, WET, DRY])

    def test_no_sequence(self):
        live = Live(WEEK, DENSE)
        live.day(WET)
        before = parts(live)
        for value in no_sequences():
            self.check_raises(Refused, 0, live.several, value)
        self.assertEqual(parts(live), before)


class TestChange(TestCase):
    def test_it_returns_nothing_and_is_seen_at_once(self):
        live, rule = Live(WEEK, DENSE), RULE.but(window=3)
        self.assertIsNone(live.change(rule))
        self.assertIs(live.rule, rule)
        self.assertIsNone(live.change(rule=DENSE))
        self.assertIs(live.rule, DENSE)
        self.assertEqual((live.rain, len(live)), ((), 2))

    def test_from_the_next_day_on(self):
        live = Live(LONE, Rule(1, 6, (2, 3)))
        live.day(WET)
        self.assertEqual(live.waiting, ((2, 0, 0),))
        live.change(Rule(1, 6, (1, 4)))
        self.assertEqual(live.waiting, ((2, 0, 0),))
        live.several([DRY, WET])
        self.assertEqual(live.waiting, ((4, 0, 0),))
        self.assertEqual(live.several([DRY, DRY]), ((), ((0, 0),)))

    def test_what_waits_beyond_a_shorter_window(self):
        for is_rainy in (DRY, WET):
            live = Live(LONE, Rule(1, 6, (4,)))
            live.day(WET)
            live.change(Rule(1, 2, ALL))
            self.assertEqual(live.waiting, ((4, 0, 0),))
            live.several([WET, WET, DRY])
            self.assertEqual(live.waiting, ((4, 0, 0),))
            self.assertEqual(live.day(is_rainy), () if is_rainy else ((0, 0),))
            self.assertEqual(live.lost, ((4, 0, 0),) if is_rainy else ())
            self.assertEqual(live.waiting, ())

    def test_a_longer_window_saves_what_waits(self):
        live = Live(LONE, Rule(1, 1, ALL))
        live.day(WET)
        live.change(Rule(1, 2, ALL))
        live.day(WET)
        self.assertEqual((live.lost, live.waiting), ((), ((2, 0, 0),)))
        live.day(WET)
        self.assertEqual((live.lost, live.waiting), (((2, 0, 0),), ()))
        live.change(Rule(1, 6, ALL))
        live.several([DRY, DRY])
        self.assertEqual((live.lost, live.waiting, live.played), (((2, 0, 0),), (), ((),) * 5))

    def test_what_waits_nearer_than_a_wider_gap(self):
        week = Week(5, [(0, "a", "b"), (1, "a", "c")])
        live = Live(week, Rule(1, 6, (2, 3)))
        live.several([WET, WET])
        self.assertEqual(live.waiting, ((2, 0, 0), (3, 1, 1)))
        live.change(Rule(2, 6, (2, 3)))
        self.assertEqual(live.several([DRY, DRY]), (((0, 0),), ((1, 1),)))

    def test_against_the_model(self):
        changes = list(rules((1, 3, 6)))[::4]
        rain = [WET, WET, DRY, WET, WET, WET, DRY, WET, WET, DRY, WET, DRY, DRY]
        for week in WEEKS:
            for first in range(len(changes)):
                live, calendar = Live(week, changes[0]), fresh_calendar(week, Rule(2, 6, ALL), len(rain))
                lost = []
                for day, is_rainy in enumerate(rain):
                    rule = changes[(first + day // 2) % len(changes)]
                    if rule != live.rule:
                        live.change(rule)
                    played, gone = one_day(week, rule, calendar, day, is_rainy)
                    lost += [(day, *key) for key in gone]
                    put = sorted((there, *key) for key, there in calendar.items() if key[0] <= day)
                    self.assertEqual(live.day(is_rainy), played)
                    self.assertEqual((live.lost, live.waiting), (tuple(lost), tuple(put)))

    def test_to_an_equal_rule(self):
        live = Live(WEEK, DENSE)
        live.day(WET)
        live.change(DENSE.but())
        live.several([DRY, WET])
        self.check_as_played(live, WEEK, DENSE, [WET, DRY, WET])
        self.assertEqual(len(live), 3)


class TestUndo(TestCase):
    def test_with_nothing_left(self):
        live = Live(WEEK, DENSE)
        self.assertIs(live.undo(), False)
        live.day(WET)
        self.assertIs(live.undo(), True)
        self.assertIs(live.undo(), False)
        self.check_as_played(live, WEEK, DENSE, [])
        self.assertEqual(len(live), 0)

    def test_each_sort_of_deed(self):
        deeds = [
            lambda live: live.day(WET),
            lambda live: live.day(DRY),
            lambda live: live.several([WET, WET, DRY]),
            lambda live: live.several([]),
            lambda live: live.change(RULE),
            lambda live: live.change(DENSE),
        ]
        for first, second, third in itertools.product(deeds, repeat=3):
            live = Live(WEEK, DENSE)
            seen = [parts(live)]
            for deed in (first, second, third):
                deed(live)
                seen.append(parts(live))
            self.assertEqual([there[-1] for there in seen], [0, 1, 2, 3])
            self.assertEqual(history(live), seen[::-1])

    def test_what_is_done_behind_it(self):
        live = Live(WEEK, DENSE)
        live.several([WET, DRY])
        live.day(WET)
        live.undo()
        live.day(DRY)
        self.check_as_played(live, WEEK, DENSE, [WET, DRY, DRY])
        live.change(RULE)
        live.undo()
        live.day(WET)
        self.check_as_played(live, WEEK, DENSE, [WET, DRY, DRY, WET])
        self.assertEqual(len(live), 3)

    def test_a_refused_deed_is_none(self):
        live = Live(WEEK, DENSE)
        live.day(WET)
        self.assertRaises(Refused, live.several, [DRY, 0])
        self.assertRaises(InvalidRain, live.day, 0)
        self.assertEqual(len(live), 1)
        live.undo()
        self.check_as_played(live, WEEK, DENSE, [])

    def test_all_short_rain(self):
        for rain in itertools.product((DRY, WET), repeat=4):
            live = Live(WEEKS[7], Rule(1, 5, ALL))
            for is_rainy in rain:
                live.day(not is_rainy)
                live.undo()
                live.day(is_rainy)
            self.check_as_played(live, WEEKS[7], Rule(1, 5, ALL), rain)


class TestWithin(TestCase):
    def led(self):
        """A live season with a deed of each sort, and all that can be seen of it."""
        live = Live(WEEK, DENSE)
        live.several([WET, DRY, WET])
        live.change(RULE.but(let=ALL))
        live.day(WET)
        return live

    def check_as_led(self, live):
        self.assertEqual(history(live), history(self.led()))

    def test_what_work_returns(self):
        live = self.led()
        self.assertIs(live.within(lambda there: there), live)
        self.assertEqual(live.within(lambda there: there.day(DRY)), Live.day(self.led(), DRY))
        self.assertIsNone(live.within(lambda there: None))
        self.assertEqual(live.within(work=len), 3)
        self.check_as_led(live)

    def test_a_work_that_plays_and_changes(self):
        def work(there):
            there.day(WET)
            there.change(DENSE)
            there.several([DRY, WET])
            return parts(there)

        live = self.led()
        found = live.within(work)
        other = self.led()
        self.assertEqual(found, work(other))
        self.assertEqual(found[-1], 6)
        self.check_as_led(live)

    def test_a_work_that_takes_back_more_than_it_did(self):
        for deeds in range(3):
            for undone in range(8):

                def work(there):
                    for _ in range(deeds):
                        there.day(DRY)
                    return [there.undo() for _ in range(undone)]

                live = self.led()
                wanted = ([True] * (deeds + 3) + [False] * 8)[:undone]
                self.assertEqual(live.within(work), wanted)
                self.check_as_led(live)

    def test_a_work_that_takes_back_and_goes_on(self):
        def work(there):
            while there.undo():
                pass
            there.change(RULE)
            there.several([DRY] * 9)
            return there.rain

        live = self.led()
        self.assertEqual(live.within(work), (DRY,) * 9)
        self.check_as_led(live)

    def test_a_work_that_raises(self):
        for error in (Broken, ValueError, KeyError, StopIteration, KeyboardInterrupt):

            def work(there):
                there.day(WET)
                there.undo()
                there.undo()
                there.change(DENSE)
                raise error(there)

            live = self.led()
            with self.assertRaises(error):
                live.within(work)
            self.check_as_led(live)

    def test_an_error_of_the_season_goes_on(self):
        live = self.led()
        self.check_raises(InvalidRain, 5, live.within, lambda there: (there.day(WET), there.day(1)))
        self.check_raises(Refused, 1, live.within, lambda there: (there.undo(), there.several([WET, 1])))
        self.check_as_led(live)

    def test_within_within(self):
        def inner(there):
            there.several([WET, WET])
            there.undo()
            there.undo()
            return len(there)

        def outer(there):
            there.day(DRY)
            before = parts(there)
            found = there.within(inner)
            self.assertEqual(parts(there), before)
            self.assertRaises(Broken, there.within, self.broken)
            self.assertEqual(parts(there), before)
            return found

        live = self.led()
        self.assertEqual(live.within(outer), 3)
        self.check_as_led(live)

    def broken(self, live):
        """A work that raises."""
        live.change(DENSE)
        raise Broken

    def test_what_is_done_behind_it(self):
        live, other = self.led(), self.led()
        live.within(lambda there: (there.undo(), there.undo(), there.day(DRY)))
        for there in (live, other):
            there.day(DRY)
        self.assertEqual(history(live), history(other))

    def test_with_nothing_done_so_far(self):
        live = Live(WEEK, DENSE)
        self.assertIs(live.within(lambda there: there.undo()), False)
        live.within(lambda there: there.several([WET, WET]))
        self.assertEqual(history(live), history(Live(WEEK, DENSE)))


class TestSame(TestCase):
    def test_looking_changes_nothing(self):
        live = Live(WEEK, DENSE)
        live.several([WET, DRY, WET])
        seen = parts(live)
        play(WEEK, DENSE, [WET])
        Live(WEEK, RULE).several([WET, WET])
        self.assertEqual(parts(live), seen)

    def test_what_was_looked_at_stays(self):
        live = Live(WEEK, DENSE)
        live.day(WET)
        rain, played, lost, waiting = live.rain, live.played, live.lost, live.waiting
        live.several([DRY, WET, WET])
        self.assertEqual((rain, played, lost, waiting), ((WET,), ((),), (), ((1, 0, 0),)))

    def test_week_and_rule_stay(self):
        week, rule = Week(4, WEEK.matches), DENSE.but()
        live = Live(week, rule)
        live.several([WET, DRY, WET])
        live.change(RULE)
        live.day(WET)
        self.assertEqual((week, rule), (WEEK, DENSE))


if __name__ == "__main__":
    unittest.main()
