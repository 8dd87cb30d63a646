"""Points [4], [5], [7]: whether the sequence or a number 0 plays a part, and polynomials in sums of powers."""

import copy
import random
import unittest
from fractions import Fraction
from itertools import combinations_with_replacement, permutations
from math import factorial, gcd

from nestsums import orders
from nestsums.formulas import Formula, word_formula
from nestsums.identities import side_formula
from nestsums.orders import in_power_sums, is_orderless, sees_zeros

from walks import (
    mixed_formula,
    orderless_formula,
    rearranged,
    rows_up_to,
    share_no_list,
    walked_sum,
    walked_value,
    words_up_to,
)

NOTHING = Formula([])
CANCELS = Formula([(3, [0, 1]), (2, [1]), (-3, [0, 1])])
SPREAD = Formula([(1, [2, 0]), (-2, [1, 1]), (1, [0, 2])])


def zeros_put_in(row):
    """Return all rows that have one number 0 more than a row."""
    return [row[:place] + [0] + row[place:] for place in range(len(row) + 1)]


class Names(unittest.TestCase):
    def test_they_are_defined_in_the_file_that_lists_them(self):
        for each in (is_orderless, sees_zeros, in_power_sums):
            self.assertEqual(each.__module__, "nestsums.orders")
            self.assertIs(vars(orders)[each.__name__], each)

    def test_arguments_may_be_passed_by_name(self):
        self.assertIs(is_orderless(formula=SPREAD), True)
        self.assertIs(sees_zeros(formula=SPREAD), True)
        self.assertEqual(in_power_sums(formula=SPREAD), in_power_sums(SPREAD))


class Orderless(unittest.TestCase):
    def walked(self, formula, many, numbers):
        """Tell by a walk whether all rearrangements of all short rows have the same value."""
        for letters in range(many + 1):
            for row in combinations_with_replacement(numbers, letters):
                if len({formula.value_on(list(other)) for other in permutations(row)}) > 1:
                    return False
        return True

    def test_mixed_formulas_by_all_rearrangements_of_short_rows(self):
        chance = random.Random(270)
        found = []
        for _ in range(250):
            formula = mixed_formula(chance, 4, 2, 1, 2)
            wanted = self.walked(formula, 2, [0, 1, 2])
            self.assertIs(is_orderless(formula), wanted, formula.terms)
            found.append(wanted)
        for _ in range(40):
            formula = orderless_formula(chance, 2, 3, 2, 2)
            self.assertIs(is_orderless(formula), True)
            self.assertTrue(self.walked(formula, 3, [0, 1, 2, 3]))
            broken = Formula(formula.terms + mixed_formula(chance, 1, 3, 2, 1).terms)
            wanted = self.walked(broken, 3, [0, 1, 2, 3])
            self.assertIs(is_orderless(broken), wanted, broken.terms)
            found.append(wanted)
        self.assertEqual(set(found), {True, False})

    def test_single_words(self):
        for word in words_up_to(4, [0, 1, 4]) + words_up_to(5, [0, 3]):
            self.assertIs(is_orderless(word_formula(word)), len(set(word)) <= 1, word)

    def test_all_rearrangements_of_a_word(self):
        for letters in ([1, 2], [0, 1, 2], [1, 1, 2], [4, 0, 4, 0], [1, 2, 3, 4], [0, 0, 0, 1, 2]):
            words = rearranged(letters)
            self.assertIs(is_orderless(Formula([(7, word) for word in words])), True)
            for left_out in range(len(words)):
                terms = [(7, word) for word in words[:left_out] + words[left_out + 1:]]
                self.assertIs(is_orderless(Formula(terms)), False)
                self.assertIs(is_orderless(Formula(terms + [(6, words[left_out])])), False)
                self.assertIs(is_orderless(Formula(terms + [(-7, words[left_out])])), False)

    def test_words_with_the_same_letters_but_not_the_same_numbers_of_them(self):
        self.assertIs(is_orderless(Formula([(1, [1, 1, 2]), (1, [1, 2, 1]), (1, [1, 2, 2])])), False)
        self.assertIs(is_orderless(Formula([(1, [1, 2]), (1, [2])])), False)

    def test_formulas_without_an_order(self):
        for formula in (NOTHING, CANCELS, word_formula([]), word_formula([0]), Formula([(0, [1, 2])]), SPREAD):
            self.assertIs(is_orderless(formula), True)

    def test_terms_that_come_together(self):
        self.assertIs(is_orderless(Formula([(1, [1, 2]), (3, [2, 1]), (2, [1, 2])])), True)
        self.assertIs(is_orderless(Formula([(1, [1, 2]), (3, [2, 1]), (1, [1, 2])])), False)
        self.assertIs(is_orderless(Formula([(5, [0, 1]), (1, [3]), (-5, [0, 1])])), True)


class Zeros(unittest.TestCase):
    def test_mixed_formulas_by_zeros_put_into_short_rows(self):
        chance = random.Random(271)
        rows = rows_up_to(2, [0, 1, 2, 3])
        found = []
        for _ in range(200):
            formula = mixed_formula(chance, 4, 3, 2, 2)
            wanted = any(
                walked_value(formula.terms, row) != walked_value(formula.terms, other)
                for row in rows
                for other in zeros_put_in(row)
            )
            self.assertIs(sees_zeros(formula), wanted, formula.terms)
            found.append(wanted)
        self.assertEqual(set(found), {True, False})

    def test_single_words(self):
        for word in words_up_to(4, [0, 1, 2]) + [[4, 3, 0, 3, 4], [4, 3, 2, 1, 1], [1, 1, 1, 1, 0], [0, 4, 4, 4, 4]]:
            self.assertIs(sees_zeros(word_formula(word)), 0 in word, word)

    def test_zeros_that_cancel(self):
        self.assertIs(sees_zeros(CANCELS), False)
        self.assertIs(sees_zeros(Formula([(2, [0]), (0, [1, 0])])), True)
        self.assertIs(sees_zeros(Formula([(2, [1]), (0, [1, 0])])), False)
        self.assertIs(sees_zeros(Formula([(1, [0, 1]), (-1, [1, 0])])), True)

    def test_numbers_alone(self):
        for formula in (NOTHING, word_formula([]), Formula([(-5, []), (5, [])])):
            self.assertIs(sees_zeros(formula), False)

    def test_the_squares_of_all_differences_see_them(self):
        self.assertIs(sees_zeros(SPREAD), True)
        self.assertIs(sees_zeros(Formula([(1, [1, 1]), (2, [2])])), False)


class PowerSums(unittest.TestCase):
    def assert_form(self, told):
        keys = []
        for each in told:
            self.assertIsInstance(each, tuple)
            top, bottom, letters = each
            self.assertGreaterEqual(bottom, 1)
            self.assertNotEqual(top, 0)
            self.assertEqual(gcd(top, bottom), 1)
            self.assertEqual(letters, sorted(letters))
            keys.append((len(letters), letters))
        self.assertEqual(keys, sorted(keys))
        self.assertEqual(len(keys), len({tuple(letters) for _, letters in keys}))

    def value_of(self, told, row):
        total = Fraction(0)
        for top, bottom, letters in told:
            share = Fraction(top, bottom)
            for letter in letters:
                share *= walked_sum([letter], row)
            total += share
        return total

    def assert_told(self, formula, rows):
        told = in_power_sums(formula)
        self.assert_form(told)
        for row in rows:
            self.assertEqual(self.value_of(told, row), walked_value(formula.terms, row), (formula.terms, row))

    def test_mixed_formulas(self):
        chance = random.Random(272)
        rows = rows_up_to(3, [-1, 0, 2]) + [[3, 1, -2, 4], [1, 1, 0, 2, -3], [2, 0, 0, 5, 1, -1]]
        for _ in range(60):
            self.assert_told(orderless_formula(chance, 3, 3, 4), rows)

    def test_words_of_four_letters(self):
        chance = random.Random(273)
        rows = [[1, 2, 3], [2, -1, 0, 3], [1, 1, 4, -2, 0], [3, 2, 5, 0, 1, -1]]
        for letters in ([1, 2, 3, 4], [0, 0, 1, 2], [2, 2, 2, 2], [0, 1, 1, 1], [0, 0, 3, 3], [4, 4, 4, 1]):
            formula = Formula([(chance.randint(1, 10 ** 6), letters[::-1])])
            formula = Formula([(formula.terms[0][0], word) for word in rearranged(letters)] + [(3, [2])])
            self.assert_told(formula, rows)

    def test_polynomials_come_back(self):
        # The one list: what a polynomial is made of is what is told of it.
        chance = random.Random(274)
        for _ in range(60):
            totals = {}
            for _ in range(chance.randint(0, 4)):
                letters = tuple(sorted(chance.randint(0, 4) for _ in range(chance.randint(0, 4))))
                totals[letters] = chance.choice([-7, -1, 1, 2, 10 ** 6])
            side = [(number, [[letter] for letter in letters]) for letters, number in totals.items()]
            ordered = sorted(totals, key=lambda letters: (len(letters), letters))
            wanted = [(totals[letters], 1, list(letters)) for letters in ordered]
            self.assertEqual(in_power_sums(side_formula(side)), wanted)

    def test_choices_of_one_letter(self):
        self.assertEqual(in_power_sums(word_formula([1, 1])), [(-1, 2, [2]), (1, 2, [1, 1])])
        wanted = [(1, 3, [6]), (-1, 2, [2, 4]), (1, 6, [2, 2, 2])]
        self.assertEqual(in_power_sums(word_formula([2, 2, 2])), wanted)
        wanted = [(-1, 4, [4]), (1, 3, [1, 3]), (1, 8, [2, 2]), (-1, 4, [1, 1, 2]), (1, 24, [1, 1, 1, 1])]
        self.assertEqual(in_power_sums(word_formula([1, 1, 1, 1])), wanted)

    def test_choices_of_zeros(self):
        # So many of the numbers: a polynomial in their number alone.
        wanted = [(-1, 4, [0]), (11, 24, [0, 0]), (-1, 4, [0, 0, 0]), (1, 24, [0, 0, 0, 0])]
        self.assertEqual(in_power_sums(word_formula([0, 0, 0, 0])), wanted)
        self.assertEqual(in_power_sums(SPREAD), [(1, 1, [0, 2]), (-1, 1, [1, 1])])

    def test_lowest_terms(self):
        told = in_power_sums(Formula([(4, [1, 1]), (1, [2, 2, 2]), (3, [2])]))
        self.assertEqual(
            told, [(1, 1, [2]), (1, 3, [6]), (2, 1, [1, 1]), (-1, 2, [2, 4]), (1, 6, [2, 2, 2])]
        )

    def test_fractions_that_cancel(self):
        self.assertEqual(in_power_sums(Formula([(2, [1, 1]), (1, [2])])), [(1, 1, [1, 1])])
        self.assertEqual(in_power_sums(CANCELS), [(2, 1, [1])])

    def test_without_letters(self):
        self.assertEqual(in_power_sums(NOTHING), [])
        self.assertEqual(in_power_sums(Formula([(0, [1, 2]), (4, [2]), (-4, [2])])), [])
        self.assertEqual(in_power_sums(word_formula([])), [(1, 1, [])])
        self.assertEqual(in_power_sums(Formula([(-6, []), (2, [3])])), [(-6, 1, []), (2, 1, [3])])

    def test_none_exactly_if_the_formula_has_an_order(self):
        chance = random.Random(276)
        found = []
        for _ in range(150):
            formula = mixed_formula(chance, 3, 3, 2)
            told = in_power_sums(formula)
            self.assertEqual(told is None, not is_orderless(formula))
            found.append(told is None)
        self.assertEqual(set(found), {True, False})
        self.assertIsNone(in_power_sums(word_formula([0, 1])))
        self.assertIsNone(in_power_sums(Formula([(1, [1, 2]), (2, [2, 1])])))

    def test_ordered_by_the_number_of_letters_then_as_lists(self):
        letters = [[], [0], [3], [10], [0, 4], [2, 2], [3, 3], [0, 0, 9], [1, 1, 1], [1, 1, 2]]
        side = [(5, [[letter] for letter in each]) for each in letters[::-1]]
        self.assertEqual(in_power_sums(side_formula(side)), [(5, 1, each) for each in letters])

    def test_longer_words_than_callers_pass(self):
        told = in_power_sums(word_formula([1] * 6))
        self.assertEqual(told[-1], (1, factorial(6), [1] * 6))
        self.assertEqual(self.value_of(told, [1] * 8), 28)

    def test_great_formulas_within_a_few_seconds(self):
        chance = random.Random(277)
        side = [(chance.randint(-10 ** 6, 10 ** 6), [[letter] for letter in letters])
                for letters in ([0, 1, 2, 3], [1, 2, 3, 4], [0, 2, 3, 4], [0, 1, 3, 4])]
        told = in_power_sums(side_formula(side))
        self.assertEqual(sorted(told), sorted((c, 1, [word[0] for word in words]) for c, words in side))


class Arguments(unittest.TestCase):
    def test_nothing_that_is_passed_is_changed(self):
        for written in (SPREAD.terms, [(3, [2, 1]), (1, []), (0, [0]), (3, [1, 2])], [(1, [0, 1])], []):
            formula = Formula(copy.deepcopy(written))
            for each in (is_orderless, sees_zeros, in_power_sums):
                each(formula)
                self.assertEqual(formula.terms, written)

    def test_returned_lists_are_new_at_all_depths(self):
        first, second = in_power_sums(SPREAD), in_power_sums(SPREAD)
        self.assertTrue(share_no_list(first, second))
        first[0][2].append(3)
        first.pop()
        self.assertEqual(in_power_sums(SPREAD), second)


if __name__ == "__main__":
    unittest.main()
