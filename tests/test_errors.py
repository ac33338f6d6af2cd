"""Tests of [4], the errors, and of what [1] and [2] say of them."""

import unittest

from rainweeks import errors
from tests.values import no_integers, no_names, sequences

PARAMETERS = {
    "InvalidWeek": "word",
    "InvalidRule": "word",
    "InvalidMeasure": "word",
    "InvalidText": "at",
    "InvalidRain": "at",
    "InvalidSeen": "at",
    "Refused": "at",
}
NAMES = [*PARAMETERS, "InvalidCommand"]


def error_class(name):
    return getattr(errors, name)


class TestFamily(unittest.TestCase):
    def test_base_is_a_value_error(self):
        self.assertEqual(errors.RainError.__bases__, (ValueError,))

    def test_each_is_a_direct_subclass_of_the_base_alone(self):
        for name in NAMES:
            with self.subTest(name):
                self.assertEqual(error_class(name).__bases__, (errors.RainError,))

    def test_none_is_derived_from_another(self):
        for name in NAMES:
            for other in NAMES:
                with self.subTest(name=name, other=other):
                    self.assertEqual(issubclass(error_class(name), error_class(other)), name == other)

    def test_there_are_eight_and_no_more(self):
        found = [thing for thing in vars(errors).values() if isinstance(thing, type)]
        self.assertEqual(len(NAMES), 8)
        self.assertEqual(sorted(thing.__name__ for thing in found), sorted([*NAMES, "RainError"]))

    def test_each_is_caught_as_the_base_and_as_a_value_error(self):
        for name in NAMES:
            arguments = [0] if name in PARAMETERS else []
            for caught in (errors.RainError, ValueError, error_class(name)):
                with self.subTest(name=name, caught=caught), self.assertRaises(caught):
                    raise error_class(name)(*arguments)


class TestArguments(unittest.TestCase):
    def check_kept(self, name, thing):
        word = PARAMETERS[name]
        self.assertIs(getattr(error_class(name)(thing), word), thing)
        self.assertIs(getattr(error_class(name)(**{word: thing}), word), thing)

    def test_the_very_argument_is_kept(self):
        things = [*no_integers(), *no_names(), *sequences(), -1, 0, 17, 10**5000, object(), {}, len]
        for name in PARAMETERS:
            for thing in things:
                with self.subTest(name):
                    self.check_kept(name, thing)

    def test_a_list_that_is_changed_afterwards_is_kept(self):
        for name, word in PARAMETERS.items():
            with self.subTest(name):
                thing = ["a", [1]]
                by_place, by_name = error_class(name)(thing), error_class(name)(**{word: thing})
                thing[1].append(2)
                thing.append("b")
                for error in (by_place, by_name):
                    self.assertIs(getattr(error, word), thing)
                    self.assertEqual(getattr(error, word), ["a", [1, 2], "b"])

    def test_arguments_are_still_there_when_the_error_is_caught(self):
        for name, word in PARAMETERS.items():
            thing = []
            with self.subTest(name), self.assertRaises(error_class(name)) as caught:
                raise error_class(name)(thing)
            self.assertIs(getattr(caught.exception, word), thing)

    def test_the_arguments_are_those_of_the_document(self):
        for name in PARAMETERS:
            with self.subTest(name):
                self.assertRaises(TypeError, error_class(name))
                self.assertRaises(TypeError, error_class(name), 0, 1)
                self.assertRaises(TypeError, error_class(name), other=0)

    def test_a_command_error_takes_none(self):
        self.assertRaises(TypeError, errors.InvalidCommand, "dry")
        self.assertEqual(vars(errors.InvalidCommand()), {})

    def test_nothing_else_is_kept(self):
        for name, word in PARAMETERS.items():
            with self.subTest(name):
                self.assertEqual(vars(error_class(name)(0)), {word: 0})

    def test_errors_are_not_iterable(self):
        for name in NAMES:
            arguments = ["ab"] if name in PARAMETERS else []
            with self.subTest(name):
                self.assertRaises(TypeError, iter, error_class(name)(*arguments))


if __name__ == "__main__":
    unittest.main()
