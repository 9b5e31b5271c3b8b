"""The names, places and arguments that the interface lists."""

import importlib
import inspect
import unittest

FUNCTIONS = {
    "orders": {
        "is_order": ["thing"],
        "ranks_of": ["order"],
        "order_of": ["ranks"],
        "left_out": ["order", "place"],
        "inverse": ["order"],
        "turned_about": ["order"],
    },
    "moving": {
        "is_run": ["yard", "thing"],
        "order_made": ["yard", "moves"],
        "fewest_moves": ["yard", "order"],
        "can": ["yard", "order"],
        "bar": ["yard", "order"],
        "is_bar": ["yard", "order", "thing"],
    },
    "counting": {
        "count": ["yard", "n", "*modulus"],
        "rule": ["yard"],
        "orders_of": ["yard", "n"],
        "order_at": ["yard", "n", "number"],
        "number_of": ["yard", "order"],
    },
    "comparing": {
        "within": ["inner", "outer"],
        "parting": ["yard", "other"],
        "within_paper": ["inner", "outer"],
        "is_within": ["inner", "outer", "thing"],
        "parted": ["first", "second", "order"],
    },
    "patterns": {
        "is_pattern": ["yard", "order"],
        "patterns_of": ["yard", "n"],
        "patterns": ["yard"],
    },
    "rooms": {"room": ["yard"], "loop": ["yard", "k"]},
    "blind": {"blind": ["yard"], "blind_paper": ["yard"], "is_blind_paper": ["yard", "thing"]},
    "parts": {
        "in_the_way": ["yard", "order"],
        "spare_roads": ["yard"],
        "spare_entries": ["yard"],
        "spare_exits": ["yard"],
    },
}
METHODS = {
    ("yards", "Yard"): {
        "__init__": ["self", "cells", "*roads", "*entries", "*exits"],
        "__eq__": ["self", "other"],
        "__add__": ["self", "other"],
        "turned": ["self"],
        "dead": ["self"],
        "without_road": ["self", "x", "y"],
        "without_entry": ["self", "x"],
        "without_exit": ["self", "x"],
    },
    ("desks", "Desk"): {
        "__init__": ["self", "yard"],
        "__len__": ["self"],
        "__iter__": ["self"],
        "move": ["self", "move"],
        "back": ["self"],
        "hopeless": ["self"],
    },
}
PROPERTIES = {
    ("yards", "Yard"): ["cells", "roads", "entries", "exits"],
    ("desks", "Desk"): ["yard", "out", "inside", "standing"],
}


def arguments(function):
    """The names of the arguments, with a star before those that are passed by name only."""
    named = []
    for name, argument in inspect.signature(function).parameters.items():
        named.append("*" + name if argument.kind == argument.KEYWORD_ONLY else name)
    return named


def module(name):
    return importlib.import_module("cellyards." + name)


class TestInterface(unittest.TestCase):
    def test_functions(self):
        for file, functions in FUNCTIONS.items():
            for name, expected in functions.items():
                function = getattr(module(file), name)
                self.assertTrue(inspect.isfunction(function), name)
                self.assertEqual(function.__module__, "cellyards." + file)
                self.assertEqual(arguments(function), expected)

    def test_methods_stand_in_their_class_itself(self):
        for (file, name), methods in METHODS.items():
            kind = getattr(module(file), name)
            self.assertEqual(kind.__module__, "cellyards." + file)
            for method, expected in methods.items():
                self.assertIn(method, vars(kind))
                self.assertEqual(arguments(vars(kind)[method]), expected)

    def test_properties_stand_in_their_class_itself(self):
        for (file, name), properties in PROPERTIES.items():
            kind = getattr(module(file), name)
            for part in properties:
                self.assertIsInstance(vars(kind)[part], property)

    def test_the_package_imports_nothing(self):
        with open(importlib.import_module("cellyards").__file__) as file:
            self.assertNotIn("import", file.read())


if __name__ == "__main__":
    unittest.main()
