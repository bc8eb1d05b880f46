import copy
import unittest

from ridgespans import errors
from values import ANY_VALUES

ARGUMENTS = {
    "Unfit": None, "NotSquare": None, "NotIn": None, "TooMany": "limit", "TooGreat": "limit",
    "BadText": "line", "TooSteep": None, "BadCorners": "index", "Above": "places",
    "BadLot": "error", "NoRow": "index", "NotRow": "value", "BadNumber": "value",
    "Beyond": "index", "BadBatch": None, "Rejected": "index", "TooManyEdits": None,
    "NothingToUndo": None, "NothingToRedo": None, "NoVersion": "given", "Changed": "row",
}


class Errors(unittest.TestCase):
    def test_ridge_error_is_a_value_error(self):
        self.assertEqual(errors.RidgeError.__bases__, (ValueError,))

    def test_each_stands_directly_under_ridge_error(self):
        for name in ARGUMENTS:
            with self.subTest(name):
                self.assertEqual(getattr(errors, name).__bases__, (errors.RidgeError,))
                self.assertEqual(getattr(errors, name).__module__, "ridgespans.errors")

    def test_those_without_arguments(self):
        for name, argument in ARGUMENTS.items():
            if argument is None:
                with self.subTest(name):
                    error = getattr(errors, name)()
                    self.assertEqual(vars(error), {})
                    self.assertIsInstance(error, ValueError)

    def test_those_with_one_keep_any_value_by_place_and_by_name(self):
        for name, argument in ARGUMENTS.items():
            if argument is not None:
                for value in ANY_VALUES:
                    with self.subTest(name, value=value):
                        self.check_kept(getattr(errors, name), argument, value)

    def check_kept(self, kind, argument, value):
        ahead = copy.deepcopy(value)
        for error in (kind(value), kind(**{argument: value})):
            self.assertEqual(list(vars(error)), [argument])
            self.assertIs(getattr(error, argument), value)
        self.assertEqual(value, ahead)

    def test_those_with_one_ask_for_it(self):
        for name, argument in ARGUMENTS.items():
            if argument is not None:
                with self.subTest(name), self.assertRaises(TypeError):
                    getattr(errors, name)()

    def test_they_are_raised_and_caught(self):
        for name, argument in ARGUMENTS.items():
            with self.subTest(name):
                kind = getattr(errors, name)
                for above in (kind, errors.RidgeError, ValueError):
                    with self.assertRaises(above) as caught:
                        raise kind() if argument is None else kind(3)
                    self.assertIs(type(caught.exception), kind)

    def test_what_is_made_by_place_shows_itself_as_the_document_writes_it(self):
        self.assertEqual(repr(errors.BadText(2)), "BadText(2)")
        self.assertEqual(repr(errors.Unfit()), "Unfit()")


if __name__ == "__main__":
    unittest.main()
