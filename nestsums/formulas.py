"""Formulas: sums of integer multiples of the sums of words."""

from nestsums.errors import InvalidWord
from nestsums.words import has_negative, word_sum


class Formula:
    """A formula, told by its terms (coefficient, word); it never changes."""

    def __init__(self, terms):
        _check_words(terms)
        self._terms = _copied(terms)

    @property
    def terms(self):
        """The terms as they were passed, in new lists."""
        return _copied(self._terms)

    def value_on(self, row):
        """Return the value on a row."""
        return sum([coefficient * word_sum(word, row) for coefficient, word in self._terms])

    def __eq__(self, other):
        return isinstance(other, Formula) and self._terms == other._terms


def word_formula(word):
    """Return the formula with the one term (1, word)."""
    return Formula([(1, word)])


def _check_words(terms):
    for number, (_, word) in enumerate(terms):
        if has_negative(word):
            raise InvalidWord(number)


def _copied(terms):
    return [(coefficient, list(word)) for coefficient, word in terms]
