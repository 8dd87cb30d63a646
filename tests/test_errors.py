"""Point [3]: the error classes."""

import unittest

from nestsums import errors
from nestsums.errors import (
    InvalidBlocks,
    InvalidKind,
    InvalidName,
    InvalidNumber,
    InvalidWord,
    NestError,
    NothingToUndo,
    TooLong,
    Unreadable,
)

OTHERS = [
    InvalidWord,
    InvalidNumber,
    InvalidKind,
    InvalidName,
    InvalidBlocks,
    NothingToUndo,
    TooLong,
    Unreadable,
]
PASSED = [0, -7, 10 ** 30, (1, [2, 3]), (), [1, [2]], [], "a text", "", None]


class Bases(unittest.TestCase):
    def test_nest_error_is_a_direct_subclass_of_value_error(self):
        self.assertEqual(NestError.__bases__, (ValueError,))

    def test_every_other_one_is_a_direct_subclass_of_nest_error(self):
        for each in OTHERS:
            with self.subTest(each=each):
                self.assertEqual(each.__bases__, (NestError,))

    def test_no_other_class_of_the_package_is_among_the_bases(self):
        for each in OTHERS:
            with self.subTest(each=each):
                own = [base for base in each.__mro__ if base.__module__.startswith("nestsums")]
                self.assertEqual(own, [each, NestError])

    def test_the_file_has_these_classes_and_no_other_ones(self):
        found = [each for each in vars(errors).values() if isinstance(each, type)]
        self.assertEqual(found, [NestError] + OTHERS)
        self.assertEqual({each.__module__ for each in found}, {"nestsums.errors"})


class Values(unittest.TestCase):
    def test_the_value_by_position_is_stored_itself(self):
        for each in [NestError] + OTHERS:
            for value in PASSED:
                with self.subTest(each=each, value=value):
                    self.assertIs(each(value).value, value)

    def test_the_value_by_name_is_stored_itself(self):
        for each in [NestError] + OTHERS:
            for value in PASSED:
                with self.subTest(each=each, value=value):
                    self.assertIs(each(value=value).value, value)

    def test_the_value_stays_when_it_is_raised(self):
        value = [1, [2]]
        for each in [NestError] + OTHERS:
            with self.subTest(each=each):
                with self.assertRaises(NestError) as caught:
                    raise each(value)
                self.assertIs(caught.exception.value, value)
                self.assertEqual(value, [1, [2]])

    def test_there_is_just_one_argument(self):
        for each in [NestError] + OTHERS:
            with self.subTest(each=each):
                self.assertRaises(TypeError, each)
                self.assertRaises(TypeError, each, 1, 2)


if __name__ == "__main__":
    unittest.main()
