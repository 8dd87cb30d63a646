"""Sides, sums of multiples of products of sums of words, and the first row on which two of them part."""

from nestsums.errors import InvalidWord
from nestsums.parting import parting
from nestsums.products import sum_of_products
from nestsums.words import has_negative


def side_formula(side):
    """Return the plain formula that has the value of a side on every row."""
    _check_side(side)
    return sum_of_products(side)


def identity_parts(side, other_side):
    """Return the first row on which two sides part, and the difference, or None if they never do."""
    return parting(side_formula(side), side_formula(other_side))


def _check_side(side):
    for number, (_, words) in enumerate(side):
        if any([has_negative(word) for word in words]):
            raise InvalidWord(number)
