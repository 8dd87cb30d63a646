"""Formulas, read from their texts."""

from nestsums.errors import Unreadable
from nestsums.formulas import Formula

MOST_DIGITS = 40
DIGITS = "0123456789"


def read_formula(text):
    """Return the formula with a text."""
    if text == "none":
        return Formula([])
    terms = []
    for part in text.split("; "):
        coefficient, _, behind = part.partition(" [")
        letters = [] if behind == "]" else behind[:-1].split(" ")
        written_well = _is_integer(coefficient) and all([_is_number(letter) for letter in letters])
        if not written_well or not behind.endswith("]"):
            raise Unreadable(text)
        terms.append((int(coefficient), [int(letter) for letter in letters]))
    return Formula(terms)


def _is_integer(text):
    """Return True if a text is that of an integer, otherwise False."""
    if text.startswith("-"):
        return text != "-0" and _is_number(text[1:])
    return _is_number(text)


def _is_number(text):
    """Return True if a text is that of an integer from 0 on, otherwise False."""
    if len(text) == 0 or len(text) > MOST_DIGITS:
        return False
    return text == "0" or (text[0] != "0" and all([sign in DIGITS for sign in text]))
