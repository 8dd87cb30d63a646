"""Sums of all spans of some words, on rows that are put together."""

from math import comb

from nestsums.words import power


class Spans:
    """All spans of some words, the empty one first, and their sums, told as lists in this sequence.

    A span of a word is some of its letters that stand side by side.
    """

    def __init__(self, words):
        spans = _spans_of(words)
        places = {span: index for index, span in enumerate(spans)}
        self._places = places
        self._longest = len(spans[-1])
        # Only for spans that are not empty: the place of the span without its last letter, and this letter.
        self._last_letters = [(places[span[:-1]], span[-1]) for span in spans[1:]]
        self._letters = [span[0] for span in spans if len(span) == 1]
        self._cuts = [_cuts_of(span, places) for span in spans]
        # Those into two spans of which none is empty.
        self._inner_cuts = [cuts[1:-1] for cuts in self._cuts]

    def place_of(self, word):
        """Return the place of a word's sum in the lists of sums."""
        return self._places[tuple(word)]

    def sums_on(self, row):
        """Return the sums on a row."""
        sums = [1] + [0] * len(self._last_letters)
        for number in row:
            powers = {letter: power(number, letter) for letter in self._letters}
            further = [sums[place] * powers[letter] for place, letter in self._last_letters]
            sums = [1] + [before + more for before, more in zip(sums[1:], further)]
        return sums

    def sums_together(self, sums, other_sums):
        """Return the sums on a row and another one behind it."""
        return _put_together(self._cuts, sums, other_sums)

    def sums_repeated(self, sums, times):
        """Return the sums on a row repeated so many times."""
        # A span is cut into pieces that are not empty, each of which lies in
        # a repetition of its own: there are comb(times, many) ways to choose
        # the repetitions for so many pieces. The empty span has no pieces.
        pieces = sums
        totals = [1] + [times * piece for piece in sums[1:]]
        for many in range(2, min(times, self._longest) + 1):
            pieces = _put_together(self._inner_cuts, pieces, sums)
            ways = comb(times, many)
            totals = [total + ways * piece for total, piece in zip(totals, pieces)]
        return totals


def _put_together(cuts_of_spans, sums, other_sums):
    """Return, for each span, the sum over its cuts of the product of the two sums at a cut's places."""
    return [sum([sums[place] * other_sums[other] for place, other in cuts]) for cuts in cuts_of_spans]


def _spans_of(words):
    """Return all spans of words as tuples, in the order of words; the empty one is always there."""
    found = {(): True}
    for word in words:
        for first in range(len(word)):
            for behind in range(first + 1, len(word) + 1):
                found[tuple(word[first:behind])] = True
    return [span for _, span in sorted([(len(span), span) for span in found])]


def _cuts_of(span, places):
    """Return the pairs of the places of two spans that a span is put together of."""
    return [(places[span[:many]], places[span[many:]]) for many in range(len(span) + 1)]
