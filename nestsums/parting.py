"""The first row on which two formulas part, among all rows or among those of a kind."""

from nestsums.errors import InvalidKind
from nestsums.formulas import Formula
from nestsums.forms import plain
from nestsums.joins import added, scaled
from nestsums.words import power

BITS = "bits"
SIGNS = "signs"


def parting(formula, other_formula):
    """Return the first row of numbers from 0 on, on which two formulas part, and the difference, or None."""
    terms = _difference(formula, other_formula).terms
    greatest = max([letter for _, word in terms for letter in word], default=0)
    return _first_row(terms, list(range(greatest + 1)))


def on_kind(formula, kind):
    """Return the plain formula of letters 0 and 1 with the same values on all rows of a kind."""
    if kind not in (BITS, SIGNS):
        raise InvalidKind(kind)
    return plain(Formula([(coefficient, _word_on(word, kind)) for coefficient, word in formula.terms]))


def parting_among(formula, other_formula, kind):
    """Return the first row of a kind on which two formulas part, and the difference, or None."""
    terms = on_kind(_difference(formula, other_formula), kind).terms
    return _first_row(terms, [0, 1] if kind == BITS else [-1, 1])


def _word_on(word, kind):
    if kind == BITS:
        return [min(letter, 1) for letter in word]
    return [letter % 2 for letter in word]


def _difference(formula, other_formula):
    return added(formula, scaled(other_formula, -1))


def _first_row(terms, numbers):
    """Return the first row of the numbers on which a plain formula is not 0, and its value, or None.

    The numbers ascend, and there are more of them than the greatest letter.
    """
    if not terms:
        return None
    _, shortest = terms[0]
    # On rows as long as the shortest words the sums of all longer ones are 0.
    left = [(coefficient, word) for coefficient, word in terms if len(word) == len(shortest)]
    row = []
    for _ in shortest:
        number, left = _first_number(left, numbers)
        row.append(number)
    value, _ = left[0]
    return (row, value)


def _first_number(terms, numbers):
    """Return the first number behind which a row may go on to a value other than 0, and the terms left for it."""
    # A polynomial other than 0 has no more roots than its degree, so one of
    # the numbers leaves some terms.
    for number in numbers:
        left = _left_behind(terms, number)
        if left:
            break
    return (number, left)


def _left_behind(terms, number):
    """Return the plain terms that are left when a number is chosen for the first letters."""
    chosen = [(coefficient * power(number, word[0]), word[1:]) for coefficient, word in terms]
    return plain(Formula(chosen)).terms
