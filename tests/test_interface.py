"""Every name and argument of the interface."""

import importlib
import inspect
import unittest

from hangstill.benches import Bench

FUNCTIONS = {
    "mobiles": {"leaves": "mobile", "load": "mobile weights", "tips": "mobile weights", "is_still": "mobile weights"},
    "shares": {"shares": "mobile", "bar": "mobile", "least": "mobile", "alike": "one other"},
    "halls": {"ring": "hall", "is_ring": "hall thing", "together": "hall", "settled": "hall told"},
    "deeds": {"turned": "mobile way", "longer": "mobile way many", "plain": "mobile", "put": "mobile way part",
              "hung": "one other weights"},
    "shapes": {"least_turned": "mobile", "how_many_turned": "mobile", "same_shape": "one other"},
    "arming": {"arms_for": "mobile weights", "how_many_arms": "mobile weights"},
    "choosing": {"choices": "mobile numbers", "one_changed": "mobile weights"},
    "pulling": {"pull": "mobile weights way", "worst": "mobile weights"},
    "binding": {"bound": "hall", "spare": "hall"},
    "benches": {"Bench": "mobile"},
    "writing": {"written": "mobile", "read": "text", "weights_text": "weights", "read_weights": "text"},
}

METHODS = {"now": "", "turn": "way", "stretch": "way many", "hang": "way part", "shorten": "", "undo": "", "again": "",
           "deeds": ""}


class Interface(unittest.TestCase):
    def arguments(self, function, arguments):
        parameters = inspect.signature(function).parameters
        self.assertEqual(list(parameters), arguments.split())
        for parameter in parameters.values():
            self.assertIs(parameter.default, inspect.Parameter.empty)

    def test_names_and_arguments(self):
        for module, functions in FUNCTIONS.items():
            for name, arguments in functions.items():
                with self.subTest(module=module, name=name):
                    self.arguments(getattr(importlib.import_module(f"hangstill.{module}"), name), arguments)

    def test_methods(self):
        bench = Bench(("weight", "a"))
        for name, arguments in METHODS.items():
            with self.subTest(name=name):
                self.arguments(getattr(bench, name), arguments)


if __name__ == "__main__":
    unittest.main()
