"""Tests of inkghost.errors."""

import unittest

from inkghost import errors

PLAIN = ["BadState", "BadPicture", "BadBanks", "BadCount", "BadRule", "BadMemory", "BadDivision", "BadRates",
         "BadLimit", "NothingDone"]
WITH_ATTRIBUTE = {"BadPanel": "part", "BadPictures": "index", "BadScript": "index", "BadSets": "index",
                  "BadText": "row"}


class ErrorsTest(unittest.TestCase):
    def test_ink_error_is_a_value_error(self):
        self.assertEqual(errors.InkError.__bases__, (ValueError,))

    def test_direct_subclasses(self):
        names = {name for name in dir(errors) if isinstance(getattr(errors, name), type)}
        self.assertEqual(names, {"InkError", *PLAIN, *WITH_ATTRIBUTE})
        for name in [*PLAIN, *WITH_ATTRIBUTE]:
            made = getattr(errors, name)
            self.assertEqual(made.__bases__, (errors.InkError,), name)
            self.assertEqual(made.__module__, "inkghost.errors")

    def test_plain_errors_take_a_message(self):
        for name in PLAIN:
            with self.assertRaises(errors.InkError) as caught:
                raise getattr(errors, name)("so")
            self.assertEqual(str(caught.exception), "so")

    def test_attributes_are_set_when_the_object_is_made(self):
        for name, attribute in WITH_ATTRIBUTE.items():
            for value in (3, None, "BANKS"):
                error = getattr(errors, name)(value)
                self.assertEqual(vars(error), {attribute: value}, name)
                self.assertIn(str(value), str(error))

    def test_attributes_of_errors_that_are_made_without_a_value(self):
        self.assertIsNone(errors.BadPanel().part)
        self.assertIsNone(errors.BadPictures().index)
        self.assertIsNone(errors.BadScript().index)
        self.assertIsNone(errors.BadSets().index)
        self.assertEqual(errors.BadText().row, 0)


if __name__ == "__main__":
    unittest.main()
