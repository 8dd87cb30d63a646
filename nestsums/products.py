"""Products of sums of words, told as plain formulas."""

from nestsums.formulas import Formula, word_formula
from nestsums.forms import plain

# The place of the 0 that is put behind each word: it stands for no letter.
NO_LETTER = -1


def multiplied(formula, other_formula):
    """Return the plain formula with the product of two values on every row."""
    other_terms = other_formula.terms
    ways = {}
    totals = {}
    for coefficient, word in formula.terms:
        for other_coefficient, other_word in other_terms:
            lengths = (len(word), len(other_word))
            if lengths not in ways:
                ways[lengths] = _ways_through(len(word), len(other_word))
            for letters in _words_together(word, other_word, ways[lengths]):
                totals[letters] = totals.get(letters, 0) + coefficient * other_coefficient
    return plain(Formula([(totals[letters], list(letters)) for letters in totals]))


def sum_of_products(side):
    """Return the plain formula with the sum of coefficient times the product of the sums of words."""
    terms = []
    for coefficient, words in side:
        product_terms = _product_of_words(words).terms
        terms.extend([(coefficient * each, word) for each, word in product_terms])
    return plain(Formula(terms))


def _product_of_words(words):
    result = word_formula([])
    for word in words:
        result = multiplied(result, word_formula(word))
    return result


def _words_together(word, other_word, ways):
    """Return the words, as tuples, whose sums add up to the product of the sums of two words."""
    letters, other_letters = word + [0], other_word + [0]
    return [tuple([letters[place] + other_letters[other] for place, other in way]) for way in ways]


def _ways_through(many, other_many):
    """Return all ways to go through two words of so many letters, from left to right, at once.

    A number of the row is chosen for a letter of the first word, for one of
    the other word, or for one of each; so a way is a list of pairs of places.
    """
    if many < 0 or other_many < 0:
        return []
    if many == 0 and other_many == 0:
        return [[]]
    ways = [way + [(many - 1, NO_LETTER)] for way in _ways_through(many - 1, other_many)]
    ways.extend([way + [(NO_LETTER, other_many - 1)] for way in _ways_through(many, other_many - 1)])
    ways.extend([way + [(many - 1, other_many - 1)] for way in _ways_through(many - 1, other_many - 1)])
    return ways
