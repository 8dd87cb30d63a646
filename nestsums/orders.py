"""Whether the sequence of the numbers, or a number 0, plays a part; formulas as polynomials in sums of powers."""

from math import factorial

from nestsums.forms import length_of, plain
from nestsums.ratios import lowest


def is_orderless(formula):
    """Return True if a formula has the same value on all rearrangements of each row, otherwise False."""
    coefficients = {tuple(word): coefficient for coefficient, word in plain(formula).terms}
    # All rearrangements of a word are made by exchanging neighbours again and again.
    return all([
        coefficients.get(other, 0) == coefficients[word]
        for word in coefficients
        for other in _with_neighbours_exchanged(word)
    ])


def sees_zeros(formula):
    """Return True if a number 0 that is put into some row changes the formula's value, otherwise False."""
    # A number 0 to the power of a letter is not 0 for the letter 0 alone.
    return any([0 in word for _, word in plain(formula).terms])


def in_power_sums(formula):
    """Return the fractions, with lists of letters, that tell a formula by sums of powers; None if it has an order."""
    if not is_orderless(formula):
        return None
    bottom = factorial(max(length_of(formula), 0))
    tops = {}
    shares = _shares_of_choices(formula, bottom)
    for letters in shares:
        products = _products_for(letters)
        for each in products:
            tops[each] = tops.get(each, 0) + shares[letters] * products[each]
    ordered = sorted([(len(letters), letters) for letters in tops if tops[letters] != 0])
    return [lowest(tops[letters], bottom) + (list(letters),) for _, letters in ordered]


def _with_neighbours_exchanged(word):
    return [
        word[:place] + (word[place + 1], word[place]) + word[place + 2:]
        for place in range(len(word) - 1)
    ]


def _shares_of_choices(formula, bottom):
    """Return how often, over a bottom, an orderless formula has the choices in any sequence for ascending letters."""
    shares = {}
    for coefficient, word in plain(formula).terms:
        # Choices in any sequence are choices from left to right for one of
        # the rearrangements of the letters, all of which stand in the formula.
        letters = tuple(sorted(word))
        shares[letters] = shares.get(letters, 0) + coefficient * (bottom // factorial(len(word)))
    return shares


def _products_for(letters):
    """Return how often products of sums of powers, told by ascending letters, make the choices in any sequence.

    These are all choices of one number of the row for each of the letters,
    no two of them at the same index.
    """
    if not letters:
        return {(): 1}
    ahead, last = letters[:-1], letters[-1]
    products = _products_for(ahead)
    found = {}
    for each in products:
        with_last = tuple(sorted(each + (last,)))
        found[with_last] = found.get(with_last, 0) + products[each]
    # Less those where the last number is one that was chosen for another letter.
    for place in range(len(ahead)):
        products = _products_for(ahead[:place] + (ahead[place] + last,) + ahead[place + 1:])
        for each in products:
            found[each] = found.get(each, 0) - products[each]
    return found
