"""Tests of [5], weeks, and of what [1] to [3] say of them."""

import unittest

from rainweeks.errors import InvalidText, InvalidWeek
from rainweeks.rules import Rule
from rainweeks.weeks import Week
from tests.values import no_integers, no_names, no_numbers, no_sequences, objects, sequences

MATCHES = ((0, "ann", "bob"), (2, "ann", "cyd"))


def is_plain_tuple(value):
    return type(value) is tuple and all(type(thing) is tuple for thing in value)


class TestMaking(unittest.TestCase):
    def test_attributes_are_the_arguments(self):
        week = Week(4, MATCHES)
        self.assertEqual((week.days, week.matches), (4, MATCHES))

    def test_lists_make_tuples(self):
        week = Week(4, list(MATCHES))
        self.assertEqual(week.matches, MATCHES)
        self.assertTrue(is_plain_tuple(week.matches))

    def test_arguments_by_name(self):
        week = Week(matches=MATCHES, days=4)
        self.assertEqual((week.days, week.matches), (4, MATCHES))

    def test_a_list_that_is_changed_behind_the_call(self):
        matches = list(MATCHES)
        week = Week(4, matches)
        matches[0] = (1, "x", "y")
        matches.append((3, "p", "q"))
        self.assertEqual((week.matches, len(week), week.sides), (MATCHES, 2, ("ann", "bob", "cyd")))
        self.assertEqual((week.on(1), str(week)), ((), "week 4\n0 ann bob\n2 ann cyd"))

    def test_arguments_are_not_changed(self):
        matches = [(3, "d", "c"), (0, "b", "a")]
        Week(4, matches)
        self.assertEqual(matches, [(3, "d", "c"), (0, "b", "a")])

    def test_matches_stay_in_their_order(self):
        matches = ((3, "z", "a"), (0, "b", "a"), (3, "c", "b"))
        self.assertEqual(Week(5, matches).matches, matches)

    def test_weeks_without_matches(self):
        for nothing in ([], ()):
            week = Week(1, nothing)
            self.assertEqual((week.matches, week.sides, len(week), week.on(0)), ((), (), 0, ()))

    def test_weeks_beyond_the_limits(self):
        matches = [(day, "ann", "bob") for day in range(6)]
        self.assertEqual(len(Week(6, matches)), 6)
        self.assertEqual(Week(10**5000, MATCHES).days, 10**5000)

    def test_names_of_one_to_four_letters(self):
        names = ["a", "z", "az", "aaaa", "zzzz"]
        for name in names:
            self.assertEqual(Week(1, [(0, name, "q")]).sides, tuple(sorted([name, "q"])))

    def test_sides_twice_on_other_days(self):
        matches = ((0, "a", "b"), (1, "a", "b"), (2, "b", "a"), (0, "c", "d"))
        self.assertEqual(Week(3, matches).matches, matches)


class TestWrongArguments(unittest.TestCase):
    def check(self, word, days, matches):
        with self.subTest(days=days, matches=matches), self.assertRaises(InvalidWeek) as caught:
            Week(days, matches)
        self.assertEqual(caught.exception.word, word)

    def test_wrong_days(self):
        for days in [0, -1, -(10**30), *no_integers()]:
            self.check("days", days, MATCHES)

    def test_days_are_named_first(self):
        for days in (0, True, None, "4", [4]):
            for matches in ((), MATCHES, None, 3, [None], [(9, "a", "b")]):
                self.check("days", days, matches)

    def test_matches_that_are_no_sequence(self):
        for matches in no_sequences():
            self.check("matches", 4, matches)

    def test_matches_of_any_values(self):
        for matches in sequences():
            self.check("matches", 4, matches)
            self.check("matches", 4, [(0, "x", "y"), *matches])

    def test_matches_that_are_no_triples(self):
        for thing in ((), (0,), (0, "a"), (0, "a", "b", "c"), (0, ("a", "b")), "0ab", "abc", [0, "a", "b"]):
            self.check("matches", 4, [thing])
            self.check("matches", 4, (MATCHES[0], thing))

    def test_a_match_in_the_place_of_matches(self):
        self.check("matches", 4, (0, "a", "b"))

    def test_wrong_days_of_matches(self):
        for day in no_numbers():
            self.check("matches", 4, [(day, "a", "b")])

    def test_days_that_the_week_does_not_have(self):
        for days in (1, 2, 4):
            for day in (days, days + 1, 10**30):
                self.check("matches", days, [(day, "a", "b")])
            self.assertEqual(Week(days, [(days - 1, "a", "b")]).on(days - 1), (0,))

    def test_sides_that_are_no_names(self):
        for name in no_names():
            self.check("matches", 4, [(0, name, "b")])
            self.check("matches", 4, [(0, "b", name)])

    def test_sides_that_are_alike(self):
        self.check("matches", 4, [(0, "a", "a")])
        self.check("matches", 4, [(0, "a", "b"), (1, "ann", "ann")])

    def test_a_side_twice_on_a_day(self):
        for one in (("a", "b"), ("b", "a")):
            for other in (("a", "c"), ("c", "a"), ("a", "b"), ("b", "a")):
                self.check("matches", 4, [(2, *one), (2, *other)])
                self.check("matches", 4, [(2, *one), (1, "a", "b"), (2, *other)])

    def test_bools_for_integers(self):
        self.check("days", True, [])
        self.check("matches", 1, [(False, "a", "b")])
        self.check("matches", 2, [(True, "a", "b")])


class TestAsking(unittest.TestCase):
    def test_sides_ascend_each_once(self):
        week = Week(3, [(2, "z", "b"), (0, "b", "aa"), (1, "z", "a")])
        self.assertEqual(week.sides, ("a", "aa", "b", "z"))
        self.assertIs(type(week.sides), tuple)
        self.assertEqual(week.sides, week.sides)

    def test_len_counts_matches(self):
        self.assertEqual([len(Week(4, MATCHES[:many])) for many in range(3)], [0, 1, 2])

    def test_on_a_day_of_the_first_week(self):
        week = Week(3, [(2, "a", "b"), (0, "c", "d"), (2, "d", "c"), (2, "e", "f")])
        self.assertEqual([week.on(day) for day in range(3)], [(1,), (), (0, 2, 3)])
        self.assertIs(type(week.on(0)), tuple)
        self.assertIs(type(week.on(1)), tuple)

    def test_on_days_far_ahead(self):
        week = Week(3, [(2, "a", "b"), (0, "c", "d"), (2, "d", "c")])
        for weeks in (1, 2, 7, 10**6, 10**30):
            days = [weeks * 3 + day for day in range(3)]
            self.assertEqual([week.on(day) for day in days], [(1,), (), (0, 2)])

    def test_on_by_name(self):
        self.assertEqual(Week(4, MATCHES).on(day=6), (1,))

    def test_asking_changes_nothing(self):
        week = Week(4, MATCHES)
        first = (str(week), week.sides, len(week), week.on(0), week.days, week.matches)
        week.on(7)
        self.assertEqual((str(week), week.sides, len(week), week.on(0), week.days, week.matches), first)


class TestTexts(unittest.TestCase):
    def test_text(self):
        self.assertEqual(str(Week(4, MATCHES)), "week 4\n0 ann bob\n2 ann cyd")
        self.assertEqual(str(Week(3, ())), "week 3")
        self.assertEqual(str(Week(12, [(11, "b", "a")])), "week 12\n11 b a")

    def test_there_and_back(self):
        weeks = [Week(4, MATCHES), Week(1, ()), Week(99, [(98, "zzzz", "a"), (10, "a", "b"), (0, "b", "a")])]
        for week in weeks:
            again = Week.read(str(week))
            self.assertIsInstance(again, Week)
            self.assertEqual((again.days, again.matches), (week.days, week.matches))
            self.assertTrue(is_plain_tuple(again.matches))

    def test_read_by_name(self):
        week = Week.read(text="week 4\n0 ann bob")
        self.assertEqual((week.days, week.matches), (4, ((0, "ann", "bob"),)))

    def test_read_two_digits(self):
        self.assertEqual(Week.read("week 10\n9 a b").days, 10)
        self.assertEqual(Week.read("week 99\n90 a b").matches, ((90, "a", "b"),))


class TestWrongTexts(unittest.TestCase):
    def check(self, at, text):
        with self.subTest(text=text), self.assertRaises(InvalidText) as caught:
            Week.read(text)
        self.assertEqual(caught.exception.at, at)

    def test_the_first_line(self):
        self.check(0, "")
        wrong = ["week", "week ", "week  4", " week 4", "week 4 ", "week 4 5", "week four", "Week 4", "weeks 4"]
        wrong += ["week 04", "week 00", "week 100", "week 123", "week -1", "week +1", "week 1.0", "week 1_0"]
        wrong += ["4", "week4", "week\t4", "4 week", "0 ann bob", "wek 4", "week a", "week 1a", "week 4\r"]
        for line in wrong:
            self.check(0, line)
            self.check(0, line + "\n0 ann bob")
            self.check(0, line + "\nnonsense")

    def test_other_lines(self):
        wrong = ["", " ", "0", "0 ann", "0 ann bob cyd", "0  ann bob", "0 ann  bob", " 0 ann bob", "0 ann bob "]
        wrong += ["00 ann bob", "01 ann bob", "100 ann bob", "012 ann bob", "-1 ann bob", "a ann bob"]
        wrong += ["0 Ann bob", "0 ann Bob", "0 annie bob", "0 ann bobby", "0 a1 bob", "0 ann 1", "0 a.b bob"]
        wrong += ["week 4", "0 ann\tbob", "ann bob 0", "0 ann bob\r", "ann bob"]
        for line in wrong:
            self.check(1, "week 4\n" + line)
            self.check(2, "week 4\n0 x y\n" + line)
            self.check(1, "week 4\n" + line + "\n" + line)

    def test_a_missing_newline(self):
        self.check(0, "week 40 ann bob")
        self.check(0, "week 4 0 ann bob")
        self.check(1, "week 4\n0 ann bob2 ann cyd")
        self.check(1, "week 4\n0 ann bob 2 ann cyd")

    def test_an_additional_newline(self):
        self.check(0, "\n")
        self.check(0, "\nweek 4\n0 ann bob")
        self.check(1, "week 4\n")
        self.check(1, "week 4\n\n0 ann bob")
        self.check(2, "week 4\n0 ann bob\n")
        self.check(2, "week 4\n0 ann bob\n\n2 ann cyd")
        self.check(3, "week 4\n0 ann bob\n2 ann cyd\n")

    def test_the_text_is_named_before_the_week(self):
        self.check(1, "week 0\nnonsense")
        self.check(2, "week 1\n5 ann bob\n0 ann")
        self.check(2, "week 1\n0 ann ann\n0 ann bobby")
        self.check(3, "week 1\n0 a b\n0 a b\n")

    def test_then_the_week(self):
        wrong = [("week 0", "days"), ("week 0\n0 ann bob", "days"), ("week 0\n0 a a", "days")]
        wrong += [("week 4\n4 ann bob", "matches"), ("week 4\n99 ann bob", "matches")]
        wrong += [("week 4\n0 ann ann", "matches"), ("week 4\n0 ann bob\n0 cyd ann", "matches")]
        for text, word in wrong:
            with self.subTest(text=text), self.assertRaises(InvalidWeek) as caught:
                Week.read(text)
            self.assertEqual(caught.exception.word, word)


class TestEquality(unittest.TestCase):
    def test_equal_if_the_texts_are(self):
        weeks = [Week(4, MATCHES), Week(4, list(MATCHES)), Week(4, MATCHES[::-1]), Week(5, MATCHES)]
        weeks += [Week(4, MATCHES[:1]), Week(4, [(0, "bob", "ann"), MATCHES[1]]), Week(4, ()), Week(1, [])]
        weeks += [Week(4, [(1, "ann", "bob"), MATCHES[1]])]
        for one in weeks:
            for other in weeks:
                with self.subTest(one=str(one), other=str(other)):
                    self.assertIs(one == other, str(one) == str(other))
                    self.assertIs(one != other, str(one) != str(other))

    def test_equal_to_nothing_of_another_class(self):
        week = Week(4, MATCHES)
        others = [str(week), MATCHES, (4, MATCHES), [4, MATCHES], 4, 2, True, None, Rule(1, 4, ())]
        for other in others + [thing for thing in objects() if not isinstance(thing, Week)]:
            with self.subTest(other=other):
                self.assertIs(week == other, False)
                self.assertIs(other == week, False)
                self.assertIs(week != other, True)

    def test_huge_weeks_are_compared(self):
        self.assertTrue(Week(10**5000, MATCHES) == Week(10**5000, MATCHES))
        self.assertFalse(Week(10**5000, MATCHES) == Week(10**5000 + 1, MATCHES))

    def test_weeks_are_not_iterable(self):
        week = Week(4, MATCHES)
        self.assertRaises(TypeError, iter, week)
        self.assertRaises(TypeError, list, week)
        with self.assertRaises(TypeError):
            MATCHES[0] in week


if __name__ == "__main__":
    unittest.main()
