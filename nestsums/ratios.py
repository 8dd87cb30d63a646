"""Fractions, told as top and bottom."""

from math import gcd


def lowest(top, bottom):
    """Return a fraction with a bottom above 0 in lowest terms."""
    divisor = gcd(top, bottom)
    return (top // divisor, bottom // divisor)
