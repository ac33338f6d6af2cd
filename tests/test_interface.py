"""Tests of the interface: the names, their parameters, and the files in which they are defined."""

import ast
import importlib
import inspect
import pathlib
import unittest

PACKAGE = pathlib.Path(__file__).resolve().parent.parent / "rainweeks"

# A class with the parameters of its __init__, then its methods with theirs; None stands for a property.
CLASSES = {
    ("errors", "RainError"): {},
    ("errors", "InvalidWeek"): {"__init__": "(self, word)"},
    ("errors", "InvalidRule"): {"__init__": "(self, word)"},
    ("errors", "InvalidMeasure"): {"__init__": "(self, word)"},
    ("errors", "InvalidText"): {"__init__": "(self, at)"},
    ("errors", "InvalidRain"): {"__init__": "(self, at)"},
    ("errors", "InvalidSeen"): {"__init__": "(self, at)"},
    ("errors", "InvalidCommand"): {"__init__": "(self)"},
    ("errors", "Refused"): {"__init__": "(self, at)"},
    ("weeks", "Week"): {
        "__init__": "(self, days, matches)",
        "sides": None,
        "on": "(self, day)",
        "read": "(text)",
        "__len__": "(self)",
        "__eq__": "(self, other)",
        "__str__": "(self)",
    },
    ("rules", "Rule"): {
        "__init__": "(self, gap, window, let, order='first')",
        "but": "(self, gap=None, window=None, let=None, order=None)",
        "__eq__": "(self, other)",
        "__str__": "(self)",
    },
    ("rains", "Measure"): {"__init__": "(self, most, span)", "lets": "(self, rain)", "__eq__": "(self, other)"},
    ("plays", "Played"): {},
    ("live", "Live"): {
        "__init__": "(self, week, rule)",
        "day": "(self, is_rainy)",
        "several": "(self, rain)",
        "change": "(self, rule)",
        "undo": "(self)",
        "within": "(self, work)",
        "__len__": "(self)",
    },
    ("desk", "Desk"): {"__init__": "(self)", "say": "(self, command)"},
}

FUNCTIONS = {
    ("plays", "play"): "(week, rule, rain)",
    ("deciding", "fails"): "(week, rule, measure)",
    ("deciding", "losing"): "(week, rule, measure)",
    ("deciding", "latest"): "(week, rule, measure)",
    ("deciding", "most_waiting"): "(week, rule, measure)",
    ("deciding", "standings"): "(week, rule, measure)",
    ("papers", "paper"): "(week, rule, measure)",
    ("papers", "paper_holds"): "(week, rule, measure, value)",
    ("comparing", "alike"): "(week, p, q, measure)",
    ("comparing", "parting"): "(week, p, q, measure)",
    ("comparing", "order_counts"): "(week, rule, measure)",
    ("comparing", "never_later"): "(week, p, q, measure)",
    ("comparing", "later"): "(week, p, q, measure)",
    ("fewer", "perverse"): "(week, rule, measure)",
    ("fewer", "perverse_rain"): "(week, rule, measure)",
    ("mending", "least_window"): "(week, rule, measure)",
    ("mending", "spare_days"): "(week, rule, measure)",
    ("mending", "wettest"): "(week, rule, span)",
    ("telling", "fits"): "(week, rule, measure, seen)",
    ("telling", "rains_of"): "(week, rule, measure, seen)",
    ("telling", "surely"): "(week, rule, measure, seen)",
}


def defined(module):
    """The classes and functions that the file of a module defines itself, by their names."""
    tree = ast.parse((PACKAGE / f"{module}.py").read_text())
    return {node.name: node for node in tree.body if isinstance(node, (ast.ClassDef, ast.FunctionDef))}


class TestInterface(unittest.TestCase):
    def test_classes_are_defined_in_their_files(self):
        for module, name in CLASSES:
            with self.subTest(module=module, name=name):
                self.assertIsInstance(defined(module).get(name), ast.ClassDef)

    def test_functions_are_defined_in_their_files(self):
        for (module, name), wanted in FUNCTIONS.items():
            with self.subTest(module=module, name=name):
                self.assertIsInstance(defined(module).get(name), ast.FunctionDef)
                there = getattr(importlib.import_module(f"rainweeks.{module}"), name)
                self.assertEqual(str(inspect.signature(there)), wanted)

    def test_methods_are_defined_in_the_class_itself(self):
        for (module, name), methods in CLASSES.items():
            body = defined(module)[name].body
            own = [node.name for node in body if isinstance(node, ast.FunctionDef)]
            for method in methods:
                with self.subTest(name=name, method=method):
                    self.assertIn(method, own)

    def test_parameters(self):
        for (module, name), methods in CLASSES.items():
            there = getattr(importlib.import_module(f"rainweeks.{module}"), name)
            for method, wanted in methods.items():
                with self.subTest(name=name, method=method):
                    found = getattr(there, method)
                    if wanted is None:
                        self.assertIsInstance(found, property)
                    else:
                        self.assertEqual(str(inspect.signature(found)), wanted)

    def test_the_package_itself_is_empty_but_for_a_docstring(self):
        tree = ast.parse((PACKAGE / "__init__.py").read_text())
        self.assertEqual(len(tree.body), 1)
        self.assertTrue(ast.get_docstring(tree))


if __name__ == "__main__":
    unittest.main()
