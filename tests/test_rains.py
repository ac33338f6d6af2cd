"""Tests of [8], rain and measures, and of what [1] to [3] say of them."""

import itertools
import unittest

from rainweeks.errors import InvalidMeasure, InvalidRain
from rainweeks.rains import Measure
from rainweeks.rules import Rule
from tests.model import keeps
from tests.values import no_bools, no_integers, no_numbers, no_sequences, objects

DRY, WET = False, True


class TestMaking(unittest.TestCase):
    def test_attributes_are_the_arguments(self):
        for most, span in [(0, 1), (1, 1), (0, 4), (1, 3), (2, 2), (2, 4), (5, 9), (10**5000, 10**5000)]:
            measure = Measure(most, span)
            self.assertEqual((measure.most, measure.span), (most, span))

    def test_arguments_by_name(self):
        measure = Measure(span=3, most=1)
        self.assertEqual((measure.most, measure.span), (1, 3))


class TestWrongArguments(unittest.TestCase):
    def check(self, word, most, span):
        with self.subTest(most=most, span=span), self.assertRaises(InvalidMeasure) as caught:
            Measure(most, span)
        self.assertEqual(caught.exception.word, word)

    def test_wrong_most(self):
        for most in no_numbers():
            self.check("most", most, 3)

    def test_wrong_span(self):
        for span in [0, -1, -(10**30), *no_integers()]:
            self.check("span", 0, span)
            self.check("span", 1, span)

    def test_bools_for_integers(self):
        self.check("most", True, 3)
        self.check("most", False, 3)
        self.check("span", 1, True)
        self.check("span", 0, True)
        self.check("span", 0, False)

    def test_span_is_at_least_most(self):
        for most in range(5):
            for span in range(-1, 7):
                if span >= max(most, 1):
                    self.assertEqual(Measure(most, span).span, span)
                else:
                    self.check("span", most, span)

    def test_the_first_wrong_one_is_named(self):
        for span in [0, True, None, "3"]:
            self.check("most", -1, span)
            self.check("most", True, span)
            self.check("most", None, span)


class TestLets(unittest.TestCase):
    def check(self, wanted, most, span, rain):
        with self.subTest(most=most, span=span, rain=rain):
            self.assertIs(Measure(most, span).lets(rain), wanted)

    def test_lists_and_tuples(self):
        for kind in (list, tuple):
            self.check(True, 1, 3, kind([WET, DRY, DRY, WET]))
            self.check(False, 1, 3, kind([WET, DRY, WET, DRY]))

    def test_the_empty_rain(self):
        for most, span in [(0, 1), (0, 4), (1, 1), (2, 4)]:
            self.check(True, most, span, [])
            self.check(True, most, span, ())

    def test_rain_shorter_than_the_span(self):
        self.check(True, 1, 4, [WET])
        self.check(True, 1, 4, [DRY, DRY, WET])
        self.check(False, 1, 4, [WET, WET])
        self.check(False, 1, 4, [WET, DRY, WET])
        self.check(True, 2, 4, [WET, DRY, WET])
        self.check(False, 2, 4, [WET, WET, WET])

    def test_broken_at_the_beginning(self):
        self.check(False, 1, 3, [WET, DRY, WET, DRY, DRY, DRY, DRY])
        self.check(False, 2, 4, [WET, WET, DRY, WET, DRY, DRY, DRY, DRY])

    def test_broken_at_the_end(self):
        self.check(False, 1, 3, [DRY, DRY, DRY, WET, DRY, WET])
        self.check(False, 1, 2, [DRY, DRY, DRY, WET, WET])
        self.check(False, 2, 4, [WET, WET, DRY, DRY, WET, DRY, WET, WET])

    def test_broken_in_the_middle(self):
        self.check(False, 2, 3, [DRY, DRY, WET, WET, WET, DRY, DRY])

    def test_broken_over_the_whole_length(self):
        self.check(False, 0, 1, [WET] * 6)
        self.check(False, 1, 4, [WET, DRY, DRY, WET])
        self.check(False, 2, 4, [WET] * 4)
        self.check(True, 1, 3, [WET, DRY, DRY, WET])

    def test_no_rainy_day_at_all(self):
        for span in range(1, 5):
            self.check(True, 0, span, [DRY] * 9)
            self.check(False, 0, span, [DRY] * 8 + [WET])
            self.check(False, 0, span, [WET] + [DRY] * 8)

    def test_all_days_rainy(self):
        for span in range(1, 5):
            self.check(True, span, span, [WET] * 40)
            self.check(True, span - 1, span, ([WET] * (span - 1) + [DRY]) * 9)
            self.check(False, span - 1, span, [WET] * span)

    def test_all_short_rain(self):
        for span in range(1, 6):
            for most in range(span + 1):
                measure = Measure(most, span)
                for length in range(9):
                    for rain in itertools.product((DRY, WET), repeat=length):
                        self.assertIs(measure.lets(rain), keeps(most, span, rain), (most, span, rain))

    def test_long_rain_and_huge_measures(self):
        self.check(True, 2, 4, [WET, WET, DRY, DRY] * 2500)
        self.check(False, 2, 4, [WET, WET, DRY, DRY] * 2500 + [DRY, WET, DRY, WET, WET])
        self.check(True, 10**30, 10**30, [WET] * 40)
        self.check(False, 1, 10**30, [WET] + [DRY] * 40 + [WET])

    def test_rain_by_name_and_unchanged(self):
        rain = [WET, DRY]
        self.assertIs(Measure(1, 3).lets(rain=rain), True)
        self.assertEqual(rain, [WET, DRY])


class TestNoRain(unittest.TestCase):
    def check(self, at, rain):
        with self.subTest(rain=rain), self.assertRaises(InvalidRain) as caught:
            Measure(1, 3).lets(rain)
        self.assertEqual(caught.exception.at, at)

    def test_no_sequence(self):
        for rain in no_sequences():
            self.check(0, rain)

    def test_the_first_thing_that_is_no_bool(self):
        for thing in no_bools():
            self.check(0, [thing])
            self.check(0, (thing, thing))
            self.check(2, [WET, DRY, thing])
            self.check(1, (DRY, thing, WET, thing))

    def test_numbers_are_no_bools(self):
        self.check(0, [0])
        self.check(0, [1])
        self.check(3, [WET, DRY, DRY, 1])

    def test_rain_that_breaks_the_measure_ahead(self):
        self.check(3, [WET, WET, WET, 0])


class TestEquality(unittest.TestCase):
    def test_equal_if_both_arguments_are(self):
        pairs = [(0, 1), (1, 1), (0, 3), (1, 3), (2, 3), (2, 4), (10**30, 10**30)]
        for one in pairs:
            for other in pairs:
                with self.subTest(one=one, other=other):
                    self.assertIs(Measure(*one) == Measure(*other), one == other)
                    self.assertIs(Measure(*one) != Measure(*other), one != other)

    def test_equal_to_nothing_of_another_class(self):
        measure = Measure(1, 3)
        others = [(1, 3), [1, 3], "1 3", 1, 3, True, None, Rule(1, 3, ())]
        for other in others + [thing for thing in objects() if not isinstance(thing, Measure)]:
            with self.subTest(other=other):
                self.assertIs(measure == other, False)
                self.assertIs(other == measure, False)
                self.assertIs(measure != other, True)

    def test_measures_are_not_iterable(self):
        self.assertRaises(TypeError, iter, Measure(1, 3))
        self.assertRaises(TypeError, list, Measure(1, 3))
        with self.assertRaises(TypeError):
            1 in Measure(1, 3)


if __name__ == "__main__":
    unittest.main()
