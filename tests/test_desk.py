"""Tests of [18] and [19], desks, and of what [1] to [3] say of them."""

import unittest

from rainweeks.desk import Desk
from rainweeks.errors import InvalidCommand, InvalidRule, InvalidText, InvalidWeek
from rainweeks.live import Live
from rainweeks.plays import play
from rainweeks.rules import Rule
from rainweeks.weeks import Week
from tests.cases import WEEK, WEEKS
from tests.values import no_integers, no_sequences, sequences

SEASON = "season week 4 ; 0 ann bob ; 2 ann cyd"
FIRST = Rule(1, 6, (0, 1, 2, 3))
DRY, WET = False, True


def led(*commands):
    """A desk to which commands were said, first a season."""
    desk = Desk()
    for command in (SEASON, *commands):
        desk.say(command)
    return desk


def parts(desk):
    """All of the live season of a desk that can be seen."""
    live = desk.live
    return live.week, live.rule, live.rain, live.played, live.lost, live.waiting, len(live)


def history(desk):
    """All of a desk that can be seen, taken back deed by deed; nothing is left of it then."""
    seen = [parts(desk)]
    while desk.say("undo") == "undone":
        seen.append(parts(desk))
    return seen


class TestCase(unittest.TestCase):
    def check(self, *rows):
        """Checks what a desk says to commands, given as pairs, and returns the desk."""
        desk = Desk()
        for command, wanted in rows:
            with self.subTest(command=command):
                found = desk.say(command)
                self.assertEqual(found, wanted)
                self.assertIs(type(found), str)
        return desk

    def check_wrong(self, command):
        """Checks that a command is none, with and without a live season, and changes nothing."""
        desk = Desk()
        with self.subTest(command=command):
            self.assertRaises(InvalidCommand, desk.say, command)
            self.assertIsNone(desk.live)
            desk = led("wet", "gap 2", "dry", "wet")
            live = desk.live
            self.assertRaises(InvalidCommand, desk.say, command)
            self.assertIs(desk.live, live)
            self.assertEqual(history(desk), history(led("wet", "gap 2", "dry", "wet")))


class TestDocument(TestCase):
    def test_example(self):
        rows = [("season " + str(WEEK).replace("\n", " ; "), "2"), ("wet", "0"), ("waits", "1"), ("dry", "1")]
        self.check(*rows, ("undo", "undone"), ("gap 2", "ok"), ("lost", "0"))


class TestSeason(TestCase):
    def test_at_first_there_is_none(self):
        self.assertIsNone(Desk().live)
        self.assertIn("live", vars(Desk()))

    def test_how_it_begins(self):
        desk = self.check((SEASON, "2"))
        self.assertIsInstance(desk.live, Live)
        self.assertEqual(parts(desk), (WEEK, FIRST, (), (), (), (), 0))

    def test_weeks_of_all_sizes(self):
        for week in [*WEEKS, Week(99, [(98, "a", "b")]), Week(10, ())]:
            desk = self.check(("season " + str(week).replace("\n", " ; "), str(len(week))))
            self.assertEqual((desk.live.week, desk.live.rule), (week, Rule(1, 6, list(range(week.days)))))

    def test_a_new_one_in_the_place_of_the_old_one(self):
        desk = led("wet", "wet", "gap 2", "window 3")
        old = desk.live
        self.assertEqual(desk.say("season week 3 ; 0 a b"), "1")
        self.assertIsNot(desk.live, old)
        self.assertEqual(parts(desk), (Week(3, [(0, "a", "b")]), Rule(1, 6, (0, 1, 2)), (), (), (), (), 0))
        self.assertEqual(desk.say("undo"), "nothing")
        self.assertEqual((desk.say("dry"), desk.say("lost"), desk.say("waits")), ("1", "0", "0"))
        self.assertEqual((len(old), old.rain), (4, (WET, WET)))

    def test_the_same_one_again(self):
        desk = led("wet", "gap 2")
        self.assertEqual(desk.say(SEASON), "2")
        self.assertEqual(parts(desk), (WEEK, FIRST, (), (), (), (), 0))

    def check_text(self, error, told, text):
        """Checks that a season of a text raises an error, and changes nothing."""
        for desk in (Desk(), led("wet", "gap 2", "dry")):
            live = desk.live
            with self.subTest(text=text), self.assertRaises(error) as caught:
                desk.say("season " + text)
            self.assertEqual(vars(caught.exception), told)
            self.assertIs(desk.live, live)
        self.assertEqual(history(desk), history(led("wet", "gap 2", "dry")))

    def test_texts_that_are_none(self):
        for at, text in [
            (0, "week"),
            (0, "weeks 4"),
            (0, "week 04"),
            (0, "week 100"),
            (0, "week 4;"),
            (0, "week 4 ;"),
            (0, "; week 4"),
            (0, ";"),
            (0, "; ;"),
            (0, "season week 4"),
            (0, "week 4 0 ann bob"),
            (0, "week 4; 0 ann bob"),
            (0, "week 4 ;0 ann bob"),
            (0, "week\t4"),
            (0, "dry"),
            (1, "week 4 ; 0 ann"),
            (1, "week 4 ; 0 ann bob ;"),
            (1, "week 4 ; 0 ann bob 2 ann cyd"),
            (1, "week 4 ; 0 ann bob2 ; 2 ann cyd"),
            (2, "week 4 ; 0 ann bob ; 02 ann cyd"),
            (2, "week 0 ; 0 ann bob ; x"),
        ]:
            self.check_text(InvalidText, {"at": at}, text)

    def test_newlines_stand_from_left_to_right(self):
        # Behind the first one no blank is left ahead of the second semicolon.
        self.check_text(InvalidText, {"at": 1}, "week 4 ; ; 0 ann bob")
        self.check_text(InvalidText, {"at": 2}, "week 4 ; 0 ann bob ; ; 2 ann cyd ; ;")
        self.check_text(InvalidText, {"at": 1}, "week 4 ; ; ; 0 ann bob")

    def test_texts_of_no_week(self):
        for word, text in [
            ("days", "week 0"),
            ("days", "week 0 ; 0 ann bob"),
            ("matches", "week 4 ; 4 ann bob"),
            ("matches", "week 4 ; 0 ann ann"),
            ("matches", "week 4 ; 0 ann bob ; 0 ann cyd"),
        ]:
            self.check_text(InvalidWeek, {"word": word}, text)


class TestDays(TestCase):
    def test_dry_and_wet(self):
        rows = [(SEASON, "2"), ("wet", "0"), ("dry", "1"), ("dry", "1"), ("dry", "0"), ("wet", "0"), ("dry", "1")]
        desk = self.check(*rows)
        self.assertEqual(desk.live.rain, (WET, DRY, DRY, DRY, WET, DRY))
        self.assertEqual(len(desk.live), 6)

    def test_several_matches_on_a_day(self):
        rows = [("season week 2 ; 0 a b ; 1 c d ; 0 e f", "3"), ("dry", "2"), ("dry", "1"), ("wet", "0"), ("dry", "3")]
        self.check(*rows)

    def test_against_play(self):
        for week in WEEKS:
            desk = Desk()
            desk.say("season " + str(week).replace("\n", " ; "))
            rain = [WET, WET, DRY, WET, DRY, DRY, WET, WET, WET, DRY]
            rule = Rule(1, 6, list(range(week.days)))
            for day, is_rainy in enumerate(rain):
                done = play(week, rule, rain[: day + 1])
                self.assertEqual(desk.say("wet" if is_rainy else "dry"), str(len(done.played[-1])))
                self.assertEqual(desk.say("waits"), str(len(done.waiting)))
                self.assertEqual(desk.say("lost"), str(len(done.lost)))
            self.assertEqual(len(desk.live), len(rain))

    def test_waits_and_lost(self):
        rows = [("season week 1 ; 0 a b ; 0 c d", "2"), ("waits", "0"), ("lost", "0"), ("wet", "0"), ("lost", "2")]
        self.check(*rows, ("wet", "0"), ("lost", "4"), ("waits", "0"), ("dry", "2"), ("lost", "4"))
        rows = [("season week 5 ; 0 a b ; 0 c d", "2"), ("wet", "0"), ("waits", "2"), ("wet", "0"), ("waits", "2")]
        self.check(*rows, ("dry", "2"), ("waits", "0"), ("lost", "0"))

    def test_asking_changes_nothing(self):
        desk = led("wet")
        before = parts(desk)
        for command in ("waits", "lost", "lost", "waits"):
            desk.say(command)
        self.assertEqual(parts(desk), before)


class TestChanges(TestCase):
    def test_gap(self):
        desk = self.check((SEASON, "2"), ("gap 2", "ok"))
        self.assertEqual(desk.live.rule, FIRST.but(gap=2))
        self.assertEqual((desk.say("wet"), desk.say("waits"), desk.say("lost")), ("0", "0", "1"))
        self.assertEqual(desk.say("gap 1"), "ok")
        self.assertEqual((desk.live.rule, len(desk.live)), (FIRST, 3))

    def test_window(self):
        for window in (1, 2, 6, 7, 10, 99):
            desk = self.check((SEASON, "2"), (f"window {window}", "ok"))
            self.assertEqual((desk.live.rule, len(desk.live)), (FIRST.but(window=window), 1))

    def test_each_keeps_the_other(self):
        desk = self.check((SEASON, "2"), ("window 3", "ok"), ("gap 2", "ok"))
        self.assertEqual(desk.live.rule, FIRST.but(gap=2, window=3))

    def test_it_keeps_the_rule_of_the_season(self):
        desk = led()
        desk.live.change(Rule(2, 4, (1, 3), "last"))
        desk.say("window 5")
        self.assertEqual(desk.live.rule, Rule(2, 5, (1, 3), "last"))

    def test_what_waits_stays(self):
        rows = [("season week 5 ; 0 a b", "1"), ("wet", "0"), ("wet", "0"), ("window 1", "ok"), ("waits", "1")]
        self.check(*rows, ("wet", "0"), ("waits", "0"), ("lost", "1"))
        self.check(*rows, ("dry", "1"), ("waits", "0"), ("lost", "0"))

    def test_numbers_that_a_rule_cannot_have(self):
        for command, word in [("gap 3", "gap"), ("gap 0", "gap"), ("gap 99", "gap"), ("window 0", "window")]:
            desk = led("wet", "window 3")
            with self.subTest(command=command), self.assertRaises(InvalidRule) as caught:
                desk.say(command)
            self.assertEqual(caught.exception.word, word)
            self.assertEqual(history(desk), history(led("wet", "window 3")))


class TestUndo(TestCase):
    def test_behind_each_sort_of_command(self):
        for command in ("dry", "wet", "gap 2", "window 1", "gap 1", "window 6"):
            desk = led("wet", "gap 2", command)
            self.assertEqual(desk.say("undo"), "undone")
            self.assertEqual(history(desk), history(led("wet", "gap 2")))

    def test_what_only_asks_is_not_taken_back(self):
        for command in ("waits", "lost"):
            desk = led("wet", "gap 2", command)
            self.assertEqual(desk.say("undo"), "undone")
            self.assertEqual(history(desk), history(led("wet")))

    def test_behind_a_season(self):
        self.check((SEASON, "2"), ("undo", "nothing"), ("undo", "nothing"), ("dry", "1"), ("undo", "undone"))

    def test_behind_undo(self):
        rows = [(SEASON, "2"), ("wet", "0"), ("wet", "0"), ("undo", "undone"), ("waits", "1"), ("undo", "undone")]
        self.check(*rows, ("waits", "0"), ("undo", "nothing"), ("dry", "1"))

    def test_what_was_done_with_the_season_itself(self):
        desk = led("wet")
        desk.live.several([DRY, WET])
        self.assertEqual((desk.say("undo"), desk.live.rain), ("undone", (WET,)))


class TestInvalidCommand(TestCase):
    def test_any_values(self):
        for value in [*no_integers(), *no_sequences(), *sequences(), -1, 0, 7]:
            self.check_wrong(value)
        for value in (["dry"], ("wet",), [SEASON], (SEASON,), ["season", "week 4"]):
            self.check_wrong(value)

    def test_words_that_are_no_commands(self):
        words = ["dri", "Dry", "WET", "rain", "wait", "0", "gap2", "window:3", ";", "?"]
        for command in [*words, "seasons week 4", "week 4", "Season week 4", "rain 2"]:
            self.check_wrong(command)

    def test_too_many_words(self):
        for command in ("dry", "wet", "waits", "lost", "undo"):
            for more in ("dry", "1", command, ";"):
                self.check_wrong(f"{command} {more}")
        for command in ("gap 1 2", "window 3 3", "gap 1 ;", "window 3 dry", "gap gap 1"):
            self.check_wrong(command)

    def test_too_few_words(self):
        for command in ("season", "gap", "window", ""):
            self.check_wrong(command)

    def test_empty_words(self):
        for command in ("dry", "wet", "waits", "lost", "undo", "gap 2", "window 3", SEASON, "season"):
            self.check_wrong(f" {command}")
            self.check_wrong(f"{command} ")
            self.check_wrong(f"{command}  ")
        for command in (" ", "  ", "gap  2", "window  3", "season  week 4", "season week  4"):
            self.check_wrong(command)
        self.check_wrong("season week 4 ;  ; 0 a b")

    def test_newlines(self):
        for command in ("dry", "wet", "waits", "lost", "undo", "gap 2", "window 3", SEASON, ""):
            self.check_wrong(f"{command}\n")
            self.check_wrong(f"\n{command}")
        self.check_wrong("season week 4\n0 ann bob")
        self.check_wrong("season\nweek 4")
        self.check_wrong("gap\n2")
        self.check_wrong("dry\nwet")

    def test_other_blanks(self):
        for command in ("dry\t", "\tdry", "gap\t2", "dry\r", "season\tweek 4"):
            self.check_wrong(command)

    def test_numbers_that_are_none(self):
        numbers = ["00", "01", "02", "09", "001", "100", "123", "-1", "+1", "1.", "1_", "x", "one"]
        for number in [*numbers, "\u0661", "\u00b2"]:
            self.check_wrong(f"gap {number}")
            self.check_wrong(f"window {number}")

    def test_without_a_live_season(self):
        for command in ("dry", "wet", "waits", "lost", "undo", "gap 2", "window 3", "gap 3", "window 0", "gap 99"):
            desk = Desk()
            with self.subTest(command=command):
                self.assertRaises(InvalidCommand, desk.say, command)
                self.assertRaises(InvalidText, desk.say, "season x")
                self.assertRaises(InvalidCommand, desk.say, command)
                self.assertIsNone(desk.live)

    def test_with_a_live_season_without_deeds(self):
        rows = [("waits", "0"), ("lost", "0"), ("undo", "nothing"), ("gap 2", "ok"), ("window 3", "ok")]
        for row in rows:
            self.check((SEASON, "2"), row)
        self.check(("season week 1", "0"), ("wet", "0"), ("dry", "0"), ("waits", "0"))


class TestDesk(TestCase):
    def test_by_name(self):
        self.assertEqual(Desk().say(command=SEASON), "2")

    def test_two_desks_have_nothing_in_common(self):
        one, other = led("wet"), led()
        self.assertEqual((one.say("waits"), other.say("waits")), ("1", "0"))
        self.assertIsNone(Desk().live)

    def test_not_iterable(self):
        for desk in (Desk(), led("wet")):
            self.assertRaises(TypeError, iter, desk)
            self.assertRaises(TypeError, list, desk)
            with self.assertRaises(TypeError):
                "dry" in desk

    def test_texts_of_the_greatest_length(self):
        rows = [f"{day} {side}a {side}b" for day in range(20) for side in "pqrs"]
        text = "season " + " ; ".join(["week 20", *rows])[:1000]
        text = text[: text.rindex(" ; ")]
        desk = self.check((text, str(text.count(" ; "))))
        self.assertEqual(desk.say("wet"), "0")


if __name__ == "__main__":
    unittest.main()
