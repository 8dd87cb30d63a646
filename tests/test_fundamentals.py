"""Points [3], [4], [5]: fundamental words, and polynomials in their sums."""

import copy
import random
import unittest
from fractions import Fraction
from math import gcd

from nestsums import fundamentals
from nestsums.errors import InvalidWord
from nestsums.formulas import Formula, word_formula
from nestsums.fundamentals import falling, in_fundamental, is_fundamental
from nestsums.identities import side_formula
from nestsums.joins import product

from walks import mixed_formula, rows_up_to, share_no_list, walked_sum, walked_value, words_up_to

NOTHING = Formula([])
CANCELS = Formula([(3, [2, 1]), (2, [1]), (-3, [2, 1])])


def key(word):
    return (len(word), word)


def walked_fundamental(word):
    """Tell by a walk over all turns whether a word is less than each other turn of it, which says the same."""
    turns = [word[place:] + word[:place] for place in range(1, len(word))]
    return word != [] and all(word < turn for turn in turns)


def all_fallings(word):
    """Return all lists of fundamental words, none less than the next one, that make a word."""
    if not word:
        return [[]]
    found = []
    for many in range(1, len(word) + 1):
        if walked_fundamental(word[:many]):
            for rest in all_fallings(word[many:]):
                if not rest or word[:many] >= rest[0]:
                    found.append([word[:many]] + rest)
    return found


class Names(unittest.TestCase):
    def test_they_are_defined_in_the_file_that_lists_them(self):
        for each in (is_fundamental, falling, in_fundamental):
            self.assertEqual(each.__module__, "nestsums.fundamentals")
            self.assertIs(vars(fundamentals)[each.__name__], each)

    def test_arguments_may_be_passed_by_name(self):
        self.assertIs(is_fundamental(word=[1, 2]), True)
        self.assertEqual(falling(word=[2, 1]), [[2], [1]])
        self.assertEqual(in_fundamental(formula=CANCELS), in_fundamental(CANCELS))


class FundamentalWords(unittest.TestCase):
    def test_all_short_words(self):
        for word in words_up_to(5, [0, 1, 2]) + words_up_to(3, [0, 1, 2, 3, 4]) + words_up_to(7, [3, 4]):
            self.assertIs(is_fundamental(word), walked_fundamental(word), word)

    def test_what_the_document_says(self):
        for word in words_up_to(6, [0, 1]):
            ends = [word[place:] for place in range(1, len(word))]
            self.assertIs(is_fundamental(word), word != [] and all(word < end for end in ends), word)

    def test_the_empty_word(self):
        self.assertIs(is_fundamental([]), False)

    def test_single_letters(self):
        for letter in (0, 1, 4, 10 ** 30):
            self.assertIs(is_fundamental([letter]), True)

    def test_an_end_that_stands_at_the_beginning_too(self):
        self.assertIs(is_fundamental([1, 1]), False)
        self.assertIs(is_fundamental([0, 1, 0]), False)
        self.assertIs(is_fundamental([0, 1, 0, 1]), False)
        self.assertIs(is_fundamental([0, 0, 1]), True)
        self.assertIs(is_fundamental([0, 1, 0, 2]), True)


class Falling(unittest.TestCase):
    def test_all_short_words_have_just_this_one(self):
        for word in words_up_to(5, [0, 1, 2]) + words_up_to(7, [1, 4]):
            self.assertEqual([falling(word)], all_fallings(word), word)

    def test_the_words_put_together(self):
        chance = random.Random(280)
        for _ in range(200):
            word = [chance.randint(0, 4) for _ in range(chance.randint(0, 12))]
            told = falling(word)
            self.assertEqual(sum(told, []), word)
            self.assertTrue(all(is_fundamental(part) for part in told))
            self.assertTrue(all(one >= other for one, other in zip(told, told[1:])))

    def test_edges(self):
        self.assertEqual(falling([]), [])
        self.assertEqual(falling([3]), [[3]])
        self.assertEqual(falling([2, 2, 2]), [[2], [2], [2]])
        self.assertEqual(falling([4, 3, 2, 1, 0]), [[4], [3], [2], [1], [0]])
        self.assertEqual(falling([0, 1, 2, 3, 4]), [[0, 1, 2, 3, 4]])
        self.assertEqual(falling([1, 2, 1]), [[1, 2], [1]])
        self.assertEqual(falling([0, 1, 0, 1, 0]), [[0, 1], [0, 1], [0]])

    def test_a_fundamental_word_falls_into_itself(self):
        for word in words_up_to(5, [0, 1, 2]):
            self.assertEqual(falling(word) == [word], is_fundamental(word))


class WrongWords(unittest.TestCase):
    def test_a_letter_below_0(self):
        for word in ([-1], [0, -1], [-1, 0], [2, -3, 1], [1, 2, -10 ** 30], [-1, -1], [-2, -1], [4, 0, 3, 1, -2]):
            for each in (is_fundamental, falling):
                with self.subTest(word=word, each=each):
                    passed = list(word)
                    with self.assertRaises(InvalidWord) as caught:
                        each(passed)
                    self.assertEqual(caught.exception.value, 0)
                    self.assertEqual(passed, word)


class Polynomials(unittest.TestCase):
    def assert_form(self, told):
        keys = []
        for each in told:
            self.assertIsInstance(each, tuple)
            top, bottom, words = each
            self.assertGreaterEqual(bottom, 1)
            self.assertNotEqual(top, 0)
            self.assertEqual(gcd(top, bottom), 1)
            self.assertTrue(all(walked_fundamental(word) for word in words))
            self.assertEqual(words, sorted(words, key=key))
            keys.append((len(words), [key(word) for word in words]))
        self.assertEqual(keys, sorted(keys))
        for one, other in zip(keys, keys[1:]):
            self.assertNotEqual(one, other)

    def value_of(self, told, row):
        total = Fraction(0)
        for top, bottom, words in told:
            share = Fraction(top, bottom)
            for word in words:
                share *= walked_sum(word, row)
            total += share
        return total

    def assert_told(self, formula, rows):
        told = in_fundamental(formula)
        self.assert_form(told)
        for row in rows:
            self.assertEqual(self.value_of(told, row), walked_value(formula.terms, row), (formula.terms, row))

    def test_mixed_formulas(self):
        chance = random.Random(281)
        rows = rows_up_to(3, [-1, 0, 2]) + [[3, 1, -2, 4], [1, 1, 0, 2, -3]]
        for _ in range(60):
            self.assert_told(mixed_formula(chance, 4, 3, 3), rows)

    def test_all_short_words(self):
        rows = [[1, 2], [2, -1, 3], [1, 0, 2, 5], [3, 1, 4, 1, 5]]
        for word in words_up_to(4, [0, 1]) + words_up_to(3, [1, 2, 4]):
            self.assert_told(word_formula(word), rows)

    def test_words_of_four_letters(self):
        chance = random.Random(282)
        rows = [[1, 2, 3], [2, -1, 0, 3], [1, 1, 4, -2, 0], [3, 2, 5, 0, 1, -1]]
        for _ in range(25):
            self.assert_told(mixed_formula(chance, 6, 4, 4, 10 ** 6), rows)

    def test_polynomials_come_back(self):
        # The one list: what a polynomial is made of is what is told of it.
        chance = random.Random(283)
        pool = [word for word in words_up_to(3, [0, 1, 2]) if walked_fundamental(word)] + [[3], [4], [0, 1, 1, 2]]
        for _ in range(80):
            totals = {}
            for _ in range(chance.randint(0, 4)):
                words = [chance.choice(pool) for _ in range(chance.randint(0, 3))]
                while sum(map(len, words)) > 4:
                    words.pop()
                totals[tuple(map(tuple, sorted(words, key=key)))] = chance.choice([-7, -1, 1, 2, 10 ** 6])
            side = [(number, [list(word) for word in words]) for words, number in totals.items()]
            ordered = sorted(side, key=lambda term: (len(term[1]), [key(word) for word in term[1]]))
            wanted = [(number, 1, words) for number, words in ordered]
            self.assertEqual(in_fundamental(side_formula(side)), wanted)

    def test_fundamental_words_are_themselves(self):
        for word in words_up_to(4, [0, 1, 2]):
            told = in_fundamental(word_formula(word))
            self.assertEqual(told == [(1, 1, [word])], walked_fundamental(word))

    def test_small_ones_by_hand(self):
        self.assertEqual(in_fundamental(word_formula([1, 1])), [(-1, 2, [[2]]), (1, 2, [[1], [1]])])
        wanted = [(1, 3, [[3]]), (-1, 2, [[1], [2]]), (1, 6, [[1], [1], [1]])]
        self.assertEqual(in_fundamental(word_formula([1, 1, 1])), wanted)
        self.assertEqual(
            in_fundamental(word_formula([1, 0])), [(-1, 1, [[1]]), (-1, 1, [[0, 1]]), (1, 1, [[0], [1]])]
        )
        # [1] times [1, 2] makes [1, 2, 1], twice [1, 1, 2], [1, 3] and [2, 2].
        self.assertEqual(in_fundamental(word_formula([1, 2, 1])), [
            (1, 2, [[4]]), (-1, 1, [[1, 3]]), (-2, 1, [[1, 1, 2]]), (1, 1, [[1], [1, 2]]), (-1, 2, [[2], [2]]),
        ])

    def test_without_words(self):
        self.assertEqual(in_fundamental(NOTHING), [])
        self.assertEqual(in_fundamental(Formula([(0, [2, 1]), (4, [1, 1]), (-4, [1, 1])])), [])
        self.assertEqual(in_fundamental(word_formula([])), [(1, 1, [])])
        self.assertEqual(in_fundamental(Formula([(-6, []), (2, [3])])), [(-6, 1, []), (2, 1, [[3]])])
        self.assertEqual(in_fundamental(CANCELS), [(2, 1, [[1]])])

    def test_lowest_terms(self):
        told = in_fundamental(Formula([(4, [1, 1]), (1, [2, 2, 2]), (3, [2])]))
        self.assertEqual(told, [
            (1, 1, [[2]]), (1, 3, [[6]]), (2, 1, [[1], [1]]), (-1, 2, [[2], [4]]), (1, 6, [[2], [2], [2]]),
        ])

    def test_ordered_by_the_number_of_words_then_by_the_first_unlike_ones(self):
        # The word [0, 1] has more letters than [3], so it stands behind it.
        lists = [
            [], [[0]], [[3]], [[0, 1]], [[1, 2]], [[0, 0, 1]], [[0], [3]], [[0], [0, 4]], [[3], [3]], [[3], [0, 1]],
            [[0, 1], [0, 1]], [[0], [0], [0]], [[0], [3], [0, 1]], [[1], [1], [1, 2]],
        ]
        side = [(5, words) for words in lists[::-1]]
        self.assertEqual(in_fundamental(side_formula(side)), [(5, 1, words) for words in lists])

    def test_equal_words_in_a_list_stand_as_often_as_they_are_multiplied(self):
        told = in_fundamental(side_formula([(3, [[0, 1], [0, 1]]), (2, [[2], [2], [2], [2]])]))
        self.assertEqual(told, [(3, 1, [[0, 1], [0, 1]]), (2, 1, [[2], [2], [2], [2]])])

    def test_greatest_formulas_within_a_few_seconds(self):
        chance = random.Random(284)
        words = [[4, 3, 2, 1], [3, 2, 1, 0], [4, 2, 1, 0], [4, 3, 1, 0], [4, 3, 2, 0], [4, 4, 3, 3]]
        formula = Formula([(chance.randint(-10 ** 6, 10 ** 6), word) for word in words])
        self.assert_told(formula, [[1, 2, 3], [2, -1, 0, 3, 5]])

    def test_products_of_returned_formulas(self):
        chance = random.Random(285)
        one, other = mixed_formula(chance, 6, 2, 4, 99), mixed_formula(chance, 6, 2, 4, 99)
        self.assert_told(product(one, other), [[1, 2, 3], [2, -1, 0, 3]])


class Arguments(unittest.TestCase):
    def test_nothing_that_is_passed_is_changed(self):
        for word in ([2, 1, 0], [], [0, 1, 1]):
            passed = list(word)
            is_fundamental(passed)
            falling(passed)
            self.assertEqual(passed, word)
        for written in (CANCELS.terms, [(3, [2, 1]), (1, []), (0, [0])], []):
            formula = Formula(copy.deepcopy(written))
            in_fundamental(formula)
            self.assertEqual(formula.terms, written)

    def test_returned_lists_are_new_at_all_depths(self):
        for word in ([0, 1], [2, 2, 1], [3]):
            passed = list(word)
            first, second = falling(passed), falling(passed)
            self.assertTrue(share_no_list(first, second, passed))
            first[0].append(7)
            first.append([])
            self.assertEqual(passed, word)
            self.assertEqual(falling(word), second)
        formula = Formula([(2, [2, 2]), (1, [1, 1, 1]), (3, [0, 1])])
        first, second = in_fundamental(formula), in_fundamental(formula)
        self.assertTrue(share_no_list(first, second))
        first[0][2][0].append(9)
        self.assertEqual(in_fundamental(formula), second)


if __name__ == "__main__":
    unittest.main()
