"""Fundamental words, and formulas as polynomials in their sums."""

from math import gcd

from nestsums.errors import InvalidWord
from nestsums.forms import plain
from nestsums.products import sum_of_products
from nestsums.ratios import lowest
from nestsums.words import has_negative


def is_fundamental(word):
    """Return True if a word is not empty and less than each of its own ends, otherwise False."""
    _check_word(word)
    return len(word) > 0 and all([word < word[place:] for place in range(1, len(word))])


def falling(word):
    """Return the fundamental words that make a word, each at least the next one."""
    _check_word(word)
    found = []
    left = word
    # The least of all ends is fundamental, and it is the last one.
    while left:
        least = min([left[place:] for place in range(len(left))])
        found.append(least)
        left = left[:len(left) - len(least)]
    return found[::-1]


def in_fundamental(formula):
    """Return the fractions, with lists of words, that tell a formula by products of sums of fundamental words."""
    # What is left of the formula: the tops of its coefficients over one bottom.
    tops = {_rank(word): coefficient for coefficient, word in plain(formula).terms}
    bottom = 1
    found = []
    while tops:
        greatest = max(tops)
        words = falling(list(greatest[1]))
        # None of this product's words is greater.
        terms = sum_of_products([(1, words)]).terms
        many, _ = terms[-1]
        factor = many // gcd(many, tops[greatest])
        bottom = bottom * factor
        share = tops[greatest] * factor // many
        tops = _less({rank: factor * tops[rank] for rank in tops}, share, terms)
        found.append(lowest(share, bottom) + (sorted(words, key=_rank),))
    return sorted(found, key=_rank_of_words)


def _check_word(word):
    if has_negative(word):
        raise InvalidWord(0)


def _rank(word):
    """Return what tells where a word stands in the order of words."""
    return (len(word), tuple(word))


def _rank_of_words(share):
    _, _, words = share
    return (len(words), [_rank(word) for word in words])


def _less(tops, share, terms):
    """Return tops less a share of some terms."""
    left = {rank: tops[rank] for rank in tops}
    for coefficient, word in terms:
        rank = _rank(word)
        left[rank] = left.get(rank, 0) - share * coefficient
    return {rank: left[rank] for rank in left if left[rank] != 0}
