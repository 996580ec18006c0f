"""[1] The errors."""

import copy
import pickle
import unittest

import risingsays.errors as errors
from risingsays.errors import RisingError
from tests.odd import Spiteful

WITH_PLACE = ("BadBook", "BadSaying", "BadTable", "BadTerms", "BadPaper", "BadDeed")


class Errors(unittest.TestCase):
    def test_rising_error_is_directly_beneath_value_error(self):
        self.assertEqual(RisingError.__bases__, (ValueError,))

    def test_all_are_directly_beneath_rising_error(self):
        for name in WITH_PLACE + ("BadParameter", "NoRow", "TooGreat"):
            made = getattr(errors, name)
            self.assertEqual(made.__bases__, (RisingError,), name)
            self.assertEqual(made.__module__, "risingsays.errors")

    def test_places(self):
        for name in WITH_PLACE:
            made = getattr(errors, name)
            self.assertEqual(made((2, 0)).place, (2, 0))
            self.assertEqual(made(place=()).place, ())
            self.assertRaises(TypeError, made)

    def test_values(self):
        value = Spiteful()
        self.assertIs(errors.BadParameter(value).value, value)
        self.assertIs(errors.BadParameter(value=None).value, None)
        self.assertRaises(TypeError, errors.BadParameter)

    def test_most(self):
        self.assertEqual(errors.TooGreat(400).most, 400)
        self.assertEqual(errors.TooGreat(most=6).most, 6)
        self.assertRaises(TypeError, errors.TooGreat)

    def test_no_row_has_nothing(self):
        self.assertEqual(vars(errors.NoRow()), {})

    def test_each_can_be_written_out_and_copied(self):
        made = [getattr(errors, name)((1, 2)) for name in WITH_PLACE]
        made += [errors.BadParameter(7), errors.NoRow(), errors.TooGreat(60)]
        for error in made:
            self.assertIsInstance(str(error), str)
            for other in (copy.copy(error), pickle.loads(pickle.dumps(error))):
                self.assertIs(type(other), type(error))
                self.assertEqual(vars(other), vars(error))
        self.assertIsInstance(str(errors.BadParameter(Spiteful())), str)
        self.assertIsInstance(str(errors.BadParameter(10 ** 10000)), str)


if __name__ == "__main__":
    unittest.main()
