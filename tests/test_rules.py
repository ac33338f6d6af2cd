"""Tests of [6], rules, and of what [1] to [3] say of them."""

import itertools
import unittest

from rainweeks.errors import InvalidRule
from rainweeks.rules import Rule
from rainweeks.weeks import Week
from tests.values import no_integers, no_numbers, no_sequences, objects, sequences

NO_GAPS = [0, 3, -1, 10**30, *no_integers()]
NO_WINDOWS = [0, -1, -(10**30), *no_integers()]
NO_LETS = [*no_sequences(), *sequences(), [0, -1], (1, True), [1, None], (3, [1]), [False], ["1"]]
NO_ORDERS = [thing for thing in no_integers() if thing != "first"]
NO_ORDERS += [-1, 0, 1, 2, "", "First", "LAST", "last ", "firs", "lastly", "firstlast", ["first"], ("last",)]


def parts(rule):
    return (rule.gap, rule.window, rule.let, rule.order)


class TestMaking(unittest.TestCase):
    def test_attributes_are_the_arguments(self):
        for gap, window, let, order in itertools.product((1, 2), (1, 6, 60), ((), (1, 3)), ("first", "last")):
            rule = Rule(gap, window, let, order)
            self.assertEqual(parts(rule), (gap, window, let, order))

    def test_order_is_first_if_none_is_given(self):
        self.assertEqual(Rule(1, 2, ()).order, "first")

    def test_arguments_by_name(self):
        self.assertEqual(parts(Rule(order="last", let=[1], window=3, gap=2)), (2, 3, (1,), "last"))
        self.assertEqual(parts(Rule(let=[1], window=3, gap=2)), (2, 3, (1,), "first"))

    def test_let_in_any_order(self):
        for let in itertools.permutations((0, 1, 3, 10)):
            self.assertEqual(Rule(1, 4, let).let, (0, 1, 3, 10))
            self.assertEqual(Rule(1, 4, list(let)).let, (0, 1, 3, 10))

    def test_let_with_days_twice(self):
        self.assertEqual(Rule(1, 4, [3, 1, 3, 3, 0, 1]).let, (0, 1, 3))

    def test_let_with_days_beyond_the_week(self):
        self.assertEqual(Rule(1, 4, [10**30, 99, 5, 99]).let, (5, 99, 10**30))

    def test_let_is_a_tuple(self):
        for let in ([], (), [1], (1,), [2, 1, 2]):
            self.assertIs(type(Rule(1, 4, let).let), tuple)

    def test_a_list_that_is_changed_behind_the_call(self):
        let = [3, 1]
        rule, other = Rule(1, 4, let), Rule(1, 4, ()).but(let=let)
        self.assertEqual(let, [3, 1])
        let.append(2)
        let[0] = 7
        self.assertEqual((rule.let, other.let), ((1, 3), (1, 3)))
        self.assertEqual((str(rule), str(other)), ("gap 1 window 4 let 1 3 order first",) * 2)


class TestWrongArguments(unittest.TestCase):
    def check(self, word, *arguments):
        with self.subTest(arguments=arguments), self.assertRaises(InvalidRule) as caught:
            Rule(*arguments)
        self.assertEqual(caught.exception.word, word)

    def test_wrong_gaps(self):
        for gap in NO_GAPS:
            self.check("gap", gap, 4, (1, 3))

    def test_wrong_windows(self):
        for window in NO_WINDOWS:
            self.check("window", 1, window, (1, 3))

    def test_wrong_let(self):
        for let in NO_LETS:
            self.check("let", 1, 4, let)
        for day in no_numbers():
            self.check("let", 1, 4, [0, day, 1])

    def test_wrong_orders(self):
        for order in NO_ORDERS:
            self.check("order", 1, 4, (1, 3), order)

    def test_the_first_wrong_one_is_named(self):
        self.check("gap", 3, 0, None, "middle")
        self.check("window", 2, 0, None, "middle")
        self.check("let", 2, 1, None, "middle")
        self.check("gap", True, True, [True], True)
        self.check("window", 1, True, [True], True)
        self.check("let", 1, 1, [True], True)


class TestBut(unittest.TestCase):
    NEW = {"gap": 1, "window": 6, "let": [4, 0, 4], "order": "last"}
    WANTED = {"gap": 1, "window": 6, "let": (0, 4), "order": "last"}

    def test_each_alone_and_several(self):
        for chosen in itertools.product((False, True), repeat=4):
            words = [word for word, taken in zip(self.NEW, chosen) if taken]
            rule = Rule(2, 4, (1, 3))
            other = rule.but(**{word: self.NEW[word] for word in words})
            wanted = {"gap": 2, "window": 4, "let": (1, 3), "order": "first"}
            wanted.update({word: self.WANTED[word] for word in words})
            with self.subTest(words=words):
                self.assertIsInstance(other, Rule)
                self.assertEqual(parts(other), tuple(wanted.values()))
                self.assertEqual(parts(rule), (2, 4, (1, 3), "first"))

    def test_by_place(self):
        rule = Rule(2, 4, (1, 3))
        self.assertEqual(parts(rule.but(1)), (1, 4, (1, 3), "first"))
        self.assertEqual(parts(rule.but(1, 6)), (1, 6, (1, 3), "first"))
        self.assertEqual(parts(rule.but(1, 6, [0])), (1, 6, (0,), "first"))
        self.assertEqual(parts(rule.but(1, 6, [0], "last")), (1, 6, (0,), "last"))
        self.assertEqual(parts(rule.but(None, None, None, "last")), (2, 4, (1, 3), "last"))

    def test_an_empty_let_is_given(self):
        for let in ([], ()):
            self.assertEqual(Rule(2, 4, (1, 3)).but(let=let).let, ())

    def test_the_order_of_the_rule_is_kept(self):
        self.assertEqual(Rule(2, 4, (1, 3), "last").but(gap=1).order, "last")
        self.assertEqual(Rule(2, 4, (1, 3), "last").but(order="first").order, "first")

    def check(self, word, **arguments):
        with self.subTest(arguments=arguments), self.assertRaises(InvalidRule) as caught:
            Rule(2, 4, (1, 3)).but(**arguments)
        self.assertEqual(caught.exception.word, word)

    def test_wrong_arguments(self):
        wrong = {"gap": NO_GAPS, "window": NO_WINDOWS, "let": NO_LETS, "order": NO_ORDERS}
        for word, things in wrong.items():
            for thing in things:
                if thing is not None:
                    self.check(word, **{word: thing})

    def test_the_first_wrong_one_is_named(self):
        self.check("gap", order="middle", let=1, window=0, gap=0)
        self.check("window", order="middle", let=1, window=0)
        self.check("let", order="middle", let=1)
        self.check("window", gap=1, window=False, order="middle")


class TestTexts(unittest.TestCase):
    def test_text(self):
        self.assertEqual(str(Rule(2, 4, (1, 3))), "gap 2 window 4 let 1 3 order first")
        self.assertEqual(str(Rule(1, 60, [12, 0, 3, 0], "last")), "gap 1 window 60 let 0 3 12 order last")
        self.assertEqual(str(Rule(1, 1, [7])), "gap 1 window 1 let 7 order first")

    def test_text_with_an_empty_let(self):
        self.assertEqual(str(Rule(2, 4, ())), "gap 2 window 4 let order first")
        self.assertEqual(str(Rule(2, 4, [], "last")), "gap 2 window 4 let order last")


class TestEquality(unittest.TestCase):
    def test_equal_if_the_texts_are(self):
        rules = [Rule(2, 4, (1, 3)), Rule(2, 4, [3, 1, 1]), Rule(1, 4, (1, 3)), Rule(2, 5, (1, 3))]
        rules += [Rule(2, 4, (1,)), Rule(2, 4, ()), Rule(2, 4, (1, 3, 9)), Rule(2, 4, (1, 3), "last")]
        for one in rules:
            for other in rules:
                with self.subTest(one=str(one), other=str(other)):
                    self.assertIs(one == other, str(one) == str(other))
                    self.assertIs(one != other, str(one) != str(other))

    def test_equal_to_nothing_of_another_class(self):
        rule = Rule(1, 4, (1, 3))
        others = [str(rule), parts(rule), list(parts(rule)), 1, 4, True, None, Week(4, ())]
        for other in others + [thing for thing in objects() if not isinstance(thing, Rule)]:
            with self.subTest(other=other):
                self.assertIs(rule == other, False)
                self.assertIs(other == rule, False)
                self.assertIs(rule != other, True)

    def test_huge_rules_are_compared(self):
        self.assertTrue(Rule(1, 10**5000, [10**5000]) == Rule(1, 10**5000, [10**5000]))
        self.assertFalse(Rule(1, 10**5000, ()) == Rule(1, 10**5000 + 1, ()))

    def test_rules_are_not_iterable(self):
        rule = Rule(1, 4, (1, 3))
        self.assertRaises(TypeError, iter, rule)
        self.assertRaises(TypeError, list, rule)
        with self.assertRaises(TypeError):
            1 in rule


if __name__ == "__main__":
    unittest.main()
