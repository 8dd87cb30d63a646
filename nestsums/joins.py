"""Formulas put together, and formulas for rows that are changed or put together."""

from math import comb

from nestsums.errors import InvalidNumber
from nestsums.formulas import Formula
from nestsums.forms import length_of, plain
from nestsums.products import multiplied, sum_of_products
from nestsums.words import beginning_sums, power


def added(formula, other_formula):
    """Return the plain formula with the sum of two values on every row."""
    return plain(Formula(formula.terms + other_formula.terms))


def scaled(formula, number):
    """Return the plain formula with number times the value on every row."""
    return plain(Formula([(coefficient * number, word) for coefficient, word in formula.terms]))


def product(formula, other_formula):
    """Return the plain formula with the product of two values on every row."""
    return multiplied(formula, other_formula)


def turned(formula):
    """Return the plain formula with the value on the row the other way about."""
    return plain(Formula([(coefficient, word[::-1]) for coefficient, word in formula.terms]))


def stretched(formula, factor):
    """Return the plain formula with the value on the row with all numbers times factor."""
    return plain(Formula([(coefficient * power(factor, sum(word)), word) for coefficient, word in formula.terms]))


def moved(formula, step):
    """Return the plain formula with the value on the row with step added to all numbers."""
    result = plain(formula)
    letters = sorted({letter for _, word in result.terms for letter in word})
    powers = {letter: _moved_power(letter, step) for letter in letters}
    # Place by place, and plain each time: whole words at once would make
    # many more terms before those with the same word come together.
    for place in range(length_of(result)):
        result = plain(Formula(_moved_at(result.terms, place, powers)))
    return result


def begun(formula, row):
    """Return the plain formula with the value on the given row and the present one behind it."""
    terms = []
    for coefficient, word in formula.terms:
        sums = beginning_sums(word, row)
        terms.extend([(coefficient * sums[place], word[place:]) for place in range(len(sums))])
    return plain(Formula(terms))


def ended(formula, row):
    """Return the plain formula with the value on the present row and the given one behind it."""
    return turned(begun(turned(formula), row[::-1]))


def repeated(formula, many):
    """Return the plain formula with the value on the row repeated so many times."""
    if many < 0:
        raise InvalidNumber(many)
    side = []
    for coefficient, word in formula.terms:
        # Each piece of a word lies in a repetition of its own, from left to right.
        side.extend([(coefficient * comb(many, len(pieces)), pieces) for pieces in _cut_up(word)])
    return sum_of_products(side)


def cuts(formula):
    """Return tuples (coefficient, word, other_word) that tell the value on a row and another one behind it."""
    found = []
    for coefficient, word in plain(formula).terms:
        found.extend([(coefficient, word[:place], word[place:]) for place in range(len(word) + 1)])
    return sorted(found, key=_by_words)


def _by_words(cut):
    _, word, other_word = cut
    return (len(word), word, len(other_word), other_word)


def _moved_power(letter, step):
    """Return the coefficients, from the power 0 on, of a number plus step, to the power of a letter."""
    return [comb(letter, lower) * power(step, letter - lower) for lower in range(letter + 1)]


def _moved_at(terms, place, powers):
    """Return the terms with the powers of moved numbers for the letters at a place."""
    found = []
    for coefficient, word in terms:
        if place >= len(word):
            found.append((coefficient, word))
        else:
            found.extend([
                (coefficient * share, word[:place] + [lower] + word[place + 1:])
                for lower, share in enumerate(powers[word[place]])
            ])
    return found


def _cut_up(word):
    """Return all ways to cut a word into pieces that are not empty."""
    if not word:
        return [[]]
    ways = []
    for place in range(1, len(word) + 1):
        ways.extend([[word[:place]] + rest for rest in _cut_up(word[place:])])
    return ways
