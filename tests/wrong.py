"""Wrong arguments that several tests use, and what their test cases have in common."""

import doctest
import unittest

from inkghost.errors import BadBanks, BadPanel, BadState
from inkghost.panels import Panel
from samples import STRANGE, THREE, example

NO_PANELS = [*STRANGE, 0, "", (), {}, Panel, ((0, 1), 1, (2, 3), THREE)]
NO_STATES = [*STRANGE, 0, "00", "", (), {}, ("00",), ("00", (0, 0), 0), ["00", (0, 0)], ("00", [0, 0]), ("00", 0),
             ("00", None), ("00", "00"), ("00", ()), ("00", (0,)), ("00", (0, 0, 0)), ("00", (0, 2)), ("00", (2, 0)),
             ("00", (0, -1)), ("00", (-1, 0)), ("00", (False, 0)), ("00", (0, True)), ("00", (0, None)),
             ("00", (0, "0")), ("00", (0, (0,))), ("00", ([], 0)), ("00", (0, 10 ** 40)), ("10", (0, 0)),
             ("0", (0, 0)), ("000", (0, 0)), ("", (0, 0)), ("11 ", (0, 0)), (b"00", (0, 0)), (0, (0, 0)),
             (None, (0, 0)), (["00"], (0, 0)), ({}, (0, 0)), (("00",), (0, 0)), (True, (0, 0)), ((0, 0), "00")]
# Nothing here can follow 11; the words are no pictures, or pictures that cannot come next.
NO_PICTURES = [*STRANGE, 0, 1, (), ("00",), {}, "", "0", "000", "11", "10", "00 ", "rest"]
NO_BANKS = [*STRANGE, 0, 1, "", "0", {}, {0: 0}, [0, 1], (True,), (False,), (False, 1), (0, True), (None,), ("0",),
            ((0,),), ([],), (0, [1]), (2,), (0, 2), (-1,), (-1, 0), (1, 0), (0, 0), (1, 1), (0, 1, 1), (0, 1, 2),
            (10 ** 40,)]


class DocumentCase(unittest.TestCase):
    """A test case for what the interface lists."""

    def example_holds(self, text, many):
        """Run an example of the document word for word."""
        test = doctest.DocTestParser().get_doctest(text, {}, "example", None, 0)
        told = []
        failed, tried = doctest.DocTestRunner(verbose=False).run(test, out=told.append)
        self.assertEqual((failed, tried, told), (0, many, []))

    def panel_refused(self, function, *rest, **more):
        for value in NO_PANELS:
            with self.assertRaises(BadPanel) as caught:
                function(value, *rest, **more)
            self.assertIsNone(caught.exception.part)

    def state_refused(self, function, *rest, **more):
        for value in NO_STATES:
            with self.assertRaises(BadState):
                function(example(), value, *rest, **more)

    def banks_refused(self, function):
        for value in NO_BANKS:
            with self.assertRaises(BadBanks):
                function(example(), value)

    def names_are_defined_in(self, module, *names):
        for name in names:
            self.assertEqual(getattr(module, name).__module__, module.__name__)
            if isinstance(getattr(module, name), type):
                for method in ("__init__", "__eq__", "shows"):
                    self.assertIn(method, vars(getattr(module, name)))
