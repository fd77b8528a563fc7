"""Tests of what the document promises over the whole program: all names, and all errors in the documented order."""

import importlib
import inspect
import itertools
import unittest

from inkghost import errors
from inkghost.coming import Coming
from inkghost.divisions import Divide
from inkghost.means import Mean
from inkghost.needs import Breaking, Holding
from inkghost.panels import Panel
from inkghost.rules import RULES, Alike, Apart, Worst
from inkghost.scripts import Plan
from inkghost.sessions import Session
from samples import THREE, example

FUNCTIONS = {
    "states": {"start": "panel", "states": "panel", "choices": "panel state picture", "after": "panel state picture banks",
               "price": "panel banks"},
    "means": {"mean": "panel", "least_mean": "panel"},
    "coming": {"coming": "panel state count", "coming_cost": "panel state count"},
    "needs": {"keeping": "panel banks", "can_keep": "panel banks", "needed": "panel"},
    "rules": {"due": "panel state picture", "flashes": "panel rule state picture memory",
              "follow": "panel rule pictures", "worst": "panel rule", "worst_mean": "panel rule",
              "compare": "panel one other", "are_alike": "panel one other"},
    "scripts": {"plan": "panel state script", "least_cost": "panel state script",
                "cost_with": "panel state script sets"},
    "divisions": {"divisions": "panel", "divided": "panel division rates", "divide": "panel rates limit",
                  "fewest_banks": "panel rates limit"},
    "texts": {"panel_text": "panel", "state_text": "panel state", "script_text": "panel state script sets",
              "read_panel": "text", "read_state": "panel text", "read_script": "panel state text"},
}
CLASSES = {
    "panels": {"Panel": "banks bound prices follows"},
    "means": {"Mean": "mean answers high pictures low"},
    "coming": {"Coming": "cost caps answers floors pictures"},
    "needs": {"Holding": "states answers", "Breaking": "plan"},
    "rules": {"Worst": "mean road turn heights", "Alike": "triples", "Apart": "pictures"},
    "scripts": {"Plan": "sets floors"},
    "divisions": {"Divide": "division means"},
    "sessions": {"Session": "panel"},
}
METHODS = {
    "Panel": {"__eq__": "other"}, "Mean": {"__eq__": "other", "shows": "panel"},
    "Coming": {"__eq__": "other", "shows": "panel state count"},
    "Holding": {"__eq__": "other", "shows": "panel banks"}, "Breaking": {"__eq__": "other", "shows": "panel banks"},
    "Worst": {"__eq__": "other", "shows": "panel rule"}, "Alike": {"__eq__": "other", "shows": "panel one other"},
    "Apart": {"__eq__": "other", "shows": "panel one other"}, "Plan": {"__eq__": "other", "shows": "panel state script"},
    "Divide": {"__eq__": "other", "shows": "panel rates limit"},
    "Session": {"__len__": "", "update": "picture banks", "rest": "banks", "spent": "", "undo": "", "branch": "",
                "trial": "", "tried": "pairs"},
}
PROPERTIES = {"Panel": ["banks", "bound", "prices", "follows"], "Session": ["state", "journal"]}
EMPTY = [Mean((0, 0), {}, {}, {}, {}), Coming(0, {}, {}, {}, {}), Holding([], {}), Breaking({}), Worst((0, 0), [], [], {}),
         Alike([]), Apart([]), Plan([], {}), Divide(None, {})]

# For each parameter: a right value, where 00 is shown, a wrong value of another kind and one of the same kind, and the
# error.
ARGUMENTS = {
    "panel": (example(), (None, example), errors.BadPanel),
    "state": (("00", (0, 1)), (True, ("00", (0, 2))), errors.BadState),
    "picture": ("11", (b"11", "00"), errors.BadPicture),
    "banks": ((0, 1), ([0, 1], (1, 0)), errors.BadBanks),
    "count": (2, (True, 7), errors.BadCount),
    "rule": ("turn", (0, "Turn"), errors.BadRule),
    "one": ("due", ((), "one"), errors.BadRule),
    "other": ("all", (None, ""), errors.BadRule),
    "pictures": (["11"], ("11", ["00"]), errors.BadPictures),
    "memory": (1, (False, 2), errors.BadMemory),
    "script": (["rest"], ("rest", []), errors.BadScript),
    "sets": ([(1,)], (None, [(2,)]), errors.BadSets),
    "division": ((0, 1), ([0, 1], (1, 0)), errors.BadDivision),
    "rates": ((1, 2), (12, (1, 2, 3)), errors.BadRates),
    "limit": ((1, 2), ([1, 2], (1, 0)), errors.BadLimit),
    "pairs": ([("rest", ())], ({}, [("rest", [])]), errors.BadSets),
}
TEXTS = {"read_panel": "banks 0\nbound 1\nprices 1\n0 1\n1 0\n", "read_state": "11 1 0", "read_script": "11 1\n"}


def parameters(function):
    """Give the names of the parameters, without that of a method for its own object."""
    return [name for name in inspect.signature(function).parameters if name != "self"]


def module_of(file):
    return importlib.import_module("inkghost." + file)


class NamesTest(unittest.TestCase):
    def test_functions(self):
        for file, functions in FUNCTIONS.items():
            for name, words in functions.items():
                function = getattr(module_of(file), name)
                self.assertTrue(inspect.isfunction(function))
                self.assertEqual(function.__module__, "inkghost." + file)
                self.assertEqual(parameters(function), words.split(), name)

    def test_classes(self):
        for file, classes in CLASSES.items():
            for name, words in classes.items():
                made = getattr(module_of(file), name)
                self.assertTrue(inspect.isclass(made))
                self.assertEqual(made.__module__, "inkghost." + file)
                self.assertEqual(parameters(vars(made)["__init__"]), words.split(), name)
                for method, more in METHODS[name].items():
                    self.assertEqual(parameters(vars(made)[method]), more.split(), (name, method))
                for listed in PROPERTIES.get(name, []):
                    self.assertIsInstance(vars(made)[listed], property)

    def test_attributes_are_set_on_each_object(self):
        for made in EMPTY:
            name = type(made).__name__
            words = [words[name] for words in CLASSES.values() if name in words][0]
            self.assertEqual(set(vars(made)), set(words.split()))

    def test_only_the_memory_is_passed_by_its_name(self):
        for file, functions in FUNCTIONS.items():
            for name in functions:
                for told in inspect.signature(getattr(module_of(file), name)).parameters.values():
                    expected = (told.KEYWORD_ONLY, 0) if told.name == "memory" else (told.POSITIONAL_OR_KEYWORD, told.empty)
                    self.assertEqual((told.kind, told.default), expected)

    def test_the_rules(self):
        self.assertEqual(RULES, ("due", "all", "early", "turn"))


class ErrorsInOrderTest(unittest.TestCase):
    """Calls with each choice of right and wrong arguments: the first wrong one counts, as its error is the first."""

    def in_order(self, function, **more):
        arguments = {**ARGUMENTS, **more}
        words = {name: arguments[name] for name in parameters(function)}
        function(**{name: right for name, (right, _, _) in words.items()})
        for chosen in itertools.product(*[[right, *wrong] for right, wrong, _ in words.values()]):
            expected = [error for value, (right, _, error) in zip(chosen, words.values()) if value is not right]
            if expected:
                with self.assertRaises(errors.InkError) as caught:
                    function(**dict(zip(words, chosen)))
                self.assertIs(type(caught.exception), expected[0], (function, chosen))

    def test_functions(self):
        for file, functions in FUNCTIONS.items():
            for name in functions:
                text = TEXTS.get(name, "")
                self.in_order(getattr(module_of(file), name), text=(text, (None, text + "x"), errors.BadText))

    def test_what_shows(self):
        for made in EMPTY:
            self.in_order(made.shows)

    def test_sessions(self):
        with self.assertRaises(errors.BadPanel):
            Session(None)
        for name in ("update", "rest", "tried"):
            session = Session(example())

            def called(**arguments):
                """Call the method, and take back what it has done."""
                before = (session.state, session.journal)
                try:
                    getattr(session, name)(**arguments)
                    if name != "tried":
                        session.undo()
                finally:
                    self.assertEqual((session.state, session.journal), before)

            called.__signature__ = inspect.signature(getattr(session, name))
            self.in_order(called)
        with self.assertRaises(errors.NothingDone):
            session.undo()

    def test_parts_of_panels(self):
        right = ((0, 1), 1, (2, 3), THREE)
        wrong = ((1, 2), 5, (2, 6), {})
        for chosen in itertools.product((True, False), repeat=4):
            arguments = [one if good else other for good, one, other in zip(chosen, right, wrong)]
            if all(chosen):
                self.assertEqual(Panel(*arguments), example())
            else:
                with self.assertRaises(errors.BadPanel) as caught:
                    Panel(*arguments)
                part = ("BANKS", "BOUND", "PRICES", "FOLLOWS")[chosen.index(False)]
                self.assertEqual(caught.exception.part, part)


if __name__ == "__main__":
    unittest.main()
