"""The names, parameters and places of what the document's interface lists, and the example of README.md."""

import doctest
import importlib
import inspect
import pathlib
import unittest

ROOT = pathlib.Path(__file__).resolve().parent.parent
FUNCTIONS = {
    "enoughpaid.prices": {
        "price": ["machine", "row"],
        "best": ["machine", "row"],
        "between": ["machine", "row", "state", "other"],
    },
    "enoughpaid.tallies": {"tally_of": ["machine", "row"]},
    "enoughpaid.expressions": {
        "stars": ["text"],
        "letters": ["text"],
        "row_of": ["text", "n"],
        "tally_along": ["machine", "text"],
        "along": ["machine", "text"],
        "ceiling": ["machine", "text"],
    },
    "enoughpaid.closures": {
        "closure": ["machine"],
        "bounded": ["machine"],
        "growing": ["machine"],
        "paper": ["machine"],
        "is_paper": ["machine", "tallies"],
    },
    "enoughpaid.pairs": {
        "under": ["one", "other"],
        "apart": ["one", "other"],
        "alike": ["one", "other"],
        "pair_paper": ["one", "other"],
        "is_pair_paper": ["one", "other", "pairs"],
    },
    "enoughpaid.greatest": {"above": ["machine", "number"], "greatest": ["machine"]},
    "enoughpaid.pieces": {"pieces": ["machine"], "enough": ["machine"]},
    "enoughpaid.curing": {"freed": ["machine", "arrows"], "cures": ["machine"], "supports": ["machine"]},
    "enoughpaid.building": {
        "either": ["one", "other"],
        "behind": ["one", "other"],
        "within": ["one", "other"],
        "summed": ["one", "other"],
        "turned": ["machine"],
    },
    "enoughpaid.known": {
        "counter": ["letters", "paid"],
        "capped": ["letters", "paid", "number"],
        "gap": ["first", "second"],
        "nested": ["letters"],
    },
}
CLASSES = {
    "enoughpaid.errors": {
        "PaidError": {},
        "BadArrow": {"__init__": ["self", "line"]},
        "BadState": {"__init__": ["self", "state"]},
        "TooMany": {"__init__": ["self", "count"]},
        "BadText": {"__init__": ["self", "line"]},
        "BadRow": {"__init__": ["self", "row"]},
        "UnknownState": {"__init__": ["self", "state"]},
        "UnknownArrow": {"__init__": ["self", "arrow"]},
        "BadNumber": {"__init__": ["self", "number"]},
        "BadExpression": {"__init__": ["self", "place"]},
        "NotSettled": {"__init__": ["self", "part"]},
        "BadTally": {"__init__": ["self"]},
        "Unbounded": {"__init__": ["self"]},
    },
    "enoughpaid.machines": {
        "Machine": {"__init__": ["self", "arrows", "starts", "ends"], "text": ["self"], "parse": ["cls", "text"]},
    },
    "enoughpaid.tallies": {
        "Tally": {
            "__init__": ["self", "states", "marks"],
            "__eq__": ["self", "other"],
            "at": ["self", "state", "other"],
            "then": ["self", "other"],
            "is_settled": ["self"],
            "repeated": ["self"],
            "between": ["self", "starts", "ends"],
        },
    },
    "enoughpaid.meters": {
        "Meter": {
            "__init__": ["self", "machine"],
            "best": ["self"],
            "read": ["self", "row"],
            "undo": ["self", "count"],
        },
    },
}
PROPERTIES = {
    ("enoughpaid.machines", "Machine"): ["arrows", "starts", "ends", "states", "letters"],
    ("enoughpaid.tallies", "Tally"): ["states", "marks"],
    ("enoughpaid.meters", "Meter"): ["machine", "so_far", "price", "prices"],
}


class InterfaceTest(unittest.TestCase):
    def test_functions(self):
        for place, functions in FUNCTIONS.items():
            module = importlib.import_module(place)
            for name, parameters in functions.items():
                function = getattr(module, name)
                self.assertEqual(function.__module__, place)
                self.assertEqual(list(inspect.signature(function).parameters), parameters)

    def test_classes(self):
        for place, classes in CLASSES.items():
            module = importlib.import_module(place)
            for name, methods in classes.items():
                made = getattr(module, name)
                self.assertEqual(made.__module__, place)
                for method, parameters in methods.items():
                    defined = vars(made)[method]
                    function = getattr(defined, "__func__", defined)
                    self.assertEqual(list(inspect.signature(function).parameters), parameters, (name, method))

    def test_parse_is_a_class_method(self):
        machine = getattr(importlib.import_module("enoughpaid.machines"), "Machine")
        self.assertIsInstance(vars(machine)["parse"], classmethod)

    def test_properties(self):
        for (place, name), properties in PROPERTIES.items():
            made = getattr(importlib.import_module(place), name)
            for told in properties:
                self.assertIsInstance(vars(made)[told], property)


class ReadmeTest(unittest.TestCase):
    def test_example(self):
        found = doctest.testfile(str(ROOT / "README.md"), module_relative=False, encoding="utf-8")
        self.assertGreater(found.attempted, 0)
        self.assertEqual(found.failed, 0)


if __name__ == "__main__":
    unittest.main()
