"""Points [3], [4], [5]: values on far rows, which are told by blocks."""

import copy
import random
import unittest
from math import comb

from nestsums.errors import InvalidBlocks, InvalidNumber
from nestsums.far import far_value
from nestsums.formulas import Formula, word_formula
from nestsums.joins import product

from walks import carried_on, mixed_blocks, mixed_formula, walked_value, words_up_to, written_out

NOTHING = Formula([])
ONE = Formula([(1, [])])
MIXED = Formula([(3, [1, 2]), (2, []), (-3, [1, 2]), (5, [0, 1]), (0, [4]), (5, [0, 1]), (-1, [2, 0, 1])])
VAST = 10 ** 30


class Names(unittest.TestCase):
    def test_it_is_defined_in_the_file_that_lists_it(self):
        self.assertEqual(far_value.__module__, "nestsums.far")

    def test_arguments_may_be_passed_by_name(self):
        self.assertEqual(far_value(formula=word_formula([1]), blocks=[([1, 2], 3)]), 9)
        self.assertEqual(far_value(blocks=[([1, 2], 3)], formula=word_formula([1])), 9)


class WrittenOut(unittest.TestCase):
    def assert_far(self, formula, blocks):
        wanted = walked_value(formula.terms, written_out(blocks))
        self.assertEqual(far_value(formula, blocks), wanted, (formula.terms, blocks))

    def test_one_block(self):
        for word in words_up_to(3, [0, 1, 2]):
            for times in range(5):
                for row in ([], [0], [3], [2, -1], [1, 0, 2]):
                    self.assert_far(word_formula(word), [(row, times)])

    def test_mixed_blocks_up_to_three_deep(self):
        chance = random.Random(60)
        lengths = set()
        for depth in (1, 2, 3):
            for _ in range(60):
                blocks = mixed_blocks(chance, depth, 3, [0, 1, 1, 2], [-2, -1, 0, 1, 3])
                lengths.add(min(len(written_out(blocks)), 10))
                self.assert_far(mixed_formula(chance, 3, 3, 3), blocks)
        self.assertLessEqual({0, 1, 2, 3, 10}, lengths)

    def test_words_of_five_letters_up_to_4(self):
        chance = random.Random(61)
        for blocks in (
            [([1, 2, -1], 3)],
            [([2], 4), ([-1, 3], 3)],
            [([([1, -2], 2), ([3], 1)], 2), ([0, 1], 2)],
            [([([([2], 2), ([-1], 1)], 2), ([0], 1)], 2)],
        ):
            terms = [(chance.randint(-9, 9), [chance.randint(0, 4) for _ in range(5)]) for _ in range(6)]
            self.assert_far(Formula(terms), blocks)

    def test_words_that_products_make(self):
        one, other = Formula([(2, [1, 4, 0]), (-1, [3])]), Formula([(1, [2, 2, 1]), (5, [0, 3])])
        blocks = [([2, -1], 2), ([([1], 3), ([0, 2], 1)], 2)]
        row = written_out(blocks)
        wanted = walked_value(one.terms, row) * walked_value(other.terms, row)
        self.assertEqual(far_value(product(one, other), blocks), wanted)

    def test_the_sequence_of_blocks_and_of_numbers(self):
        later = word_formula([1, 2])
        self.assertEqual(far_value(later, [([2], 1), ([3], 1)]), 18)
        self.assertEqual(far_value(later, [([3], 1), ([2], 1)]), 12)
        self.assertEqual(far_value(later, [([2, 3], 1)]), 18)
        self.assertEqual(far_value(later, [([([2], 1), ([3], 1)], 1)]), 18)

    def test_empty_rows_and_no_blocks(self):
        for blocks in ([], [([], 5)], [([], VAST), ([], 0)], [([([], 3)], VAST)], [([([([], 1)], 1)], 1)]):
            self.assertEqual(far_value(MIXED, blocks), 2)
            self.assertEqual(far_value(ONE, blocks), 1)
            self.assertEqual(far_value(word_formula([0]), blocks), 0)
        self.assert_far(MIXED, [([], 4), ([1, 2], 2), ([], 1), ([3], 1)])

    def test_blocks_of_0_times(self):
        self.assertEqual(far_value(MIXED, [([1, 2, 3], 0)]), 2)
        self.assertEqual(far_value(MIXED, [([([1, 2], 3)], 0)]), 2)
        self.assertEqual(far_value(MIXED, [([([1, 2], 0)], VAST)]), 2)
        self.assert_far(MIXED, [([1, 2], 0), ([3, 4], 2), ([5], 0)])
        self.assert_far(MIXED, [([([1, 2], 0), ([([3], 2), ([1], 0)], 2)], 2), ([-1], 1)])

    def test_no_words_and_no_terms(self):
        for blocks in ([], [([1, 2], 3)], [([([5], VAST)], 2)]):
            self.assertEqual(far_value(NOTHING, blocks), 0)
            self.assertEqual(far_value(Formula([(2, [1]), (-2, [1]), (0, [])]), blocks), 0)
            self.assertEqual(far_value(Formula([(4, []), (3, [])]), blocks), 7)

    def test_0_to_the_power_0_is_1(self):
        self.assertEqual(far_value(word_formula([0, 0]), [([0, 0], 3)]), comb(6, 2))
        self.assertEqual(far_value(word_formula([0, 1]), [([0], VAST), ([5], 1)]), 5 * VAST)


class FarAway(unittest.TestCase):
    def test_equal_numbers(self):
        for letters in range(6):
            for number in (1, -2, 10 ** 6):
                told = far_value(word_formula([3] * letters), [([number], VAST)])
                self.assertEqual(told, comb(VAST, letters) * number ** (3 * letters))

    def test_the_sum_of_products_of_pairs(self):
        pairs = word_formula([1, 1])
        self.assertEqual(far_value(pairs, [([1], VAST)]), VAST * (VAST - 1) // 2)
        total, squares = 6 * VAST, 14 * VAST
        self.assertEqual(far_value(pairs, [([3, 1, 2], VAST)]), (total * total - squares) // 2)

    def test_repetitions_within_repetitions(self):
        # All numbers are 1: there are VAST to the power 3, and 5 more.
        blocks = [([([([1], VAST)], VAST)], VAST), ([1, 1], 2), ([1], 1)]
        for letters in range(6):
            self.assertEqual(far_value(word_formula([4] * letters), blocks), comb(VAST ** 3 + 5, letters))

    def test_indices_on_a_far_row(self):
        # Numbers behind each number 1, which stand at every third place.
        blocks = [([1, 0, 0], VAST)]
        self.assertEqual(far_value(word_formula([1, 0]), blocks), sum_of_steps(VAST, 3, 2))
        self.assertEqual(far_value(word_formula([0, 1]), blocks), sum_of_steps(VAST, 3, 0))

    def test_the_value_is_a_polynomial_in_each_number_of_times(self):
        chance = random.Random(62)
        for _ in range(12):
            formula = Formula([(chance.randint(-9, 9), [chance.randint(0, 4) for _ in range(4)]) for _ in range(3)])
            inner, row = [chance.randint(-3, 3) for _ in range(2)], [chance.randint(-3, 3)]
            # The number of times is left open in one of three places.
            for blocks_of in (
                lambda times: [(row, 1), (inner, times), (row, 2)],
                lambda times: [([(inner, 1), (row, 2)], times), (inner, 1)],
                lambda times: [(row, 1), ([(inner, times), (row, 1)], 2)],
            ):
                values = [walked_value(formula.terms, written_out(blocks_of(times))) for times in range(5)]
                for times in (5, 10 ** 9, VAST):
                    self.assertEqual(far_value(formula, blocks_of(times)), carried_on(values, times))

    def test_at_the_bounds(self):
        chance = random.Random(63)

        def row():
            return [chance.randint(-10 ** 6, 10 ** 6) for _ in range(8)]

        blocks = [([([(row(), VAST - place) for place in range(6)], VAST)] * 6, VAST)] * 6
        formula = Formula([(10 ** 6, [4, 3, 4, 2, 4]), (-10 ** 6, [4] * 5), (3, [1])])
        value = far_value(formula, blocks)
        # All 36 inner lists are the same one, so this is one list repeated.
        self.assertEqual(far_value(formula, [(blocks[0][0][0][0], 36 * VAST * VAST)]), value)

    def test_more_than_so_many_times(self):
        self.assertEqual(far_value(word_formula([0, 0]), [([5], 10 ** 60)]), comb(10 ** 60, 2))


def sum_of_steps(many, step, first):
    """Return the sum of so many numbers, from the first one on, each by step greater."""
    return many * first + step * many * (many - 1) // 2


def nested(depth, times=1, row=()):
    """Return blocks that lie so deep within one another."""
    blocks = [(list(row), times)]
    for _ in range(depth - 1):
        blocks = [(blocks, times)]
    return blocks


class TooDeep(unittest.TestCase):
    def assert_too_deep(self, depth, blocks):
        before = copy.deepcopy(blocks)
        for formula in (MIXED, NOTHING, ONE):
            with self.assertRaises(InvalidBlocks) as caught:
                far_value(formula, blocks)
            self.assertEqual(caught.exception.value, depth)
        self.assertEqual(blocks, before)

    def test_one_within_another(self):
        for depth in (4, 5, 6, 10, 50):
            self.assert_too_deep(depth, nested(depth))
            self.assert_too_deep(depth, nested(depth, 2, [1, 2]))

    def test_three_deep_is_right(self):
        for depth in (1, 2, 3):
            self.assertEqual(far_value(word_formula([1]), nested(depth, 2, [1, 2])), 3 * 2 ** depth)
            self.assertEqual(far_value(word_formula([1]), nested(depth)), 0)

    def test_the_deepest_one_counts(self):
        self.assert_too_deep(4, [([1], 1), (nested(3), 1)])
        self.assert_too_deep(6, [(nested(3), 1), (nested(5), 1), ([1], 1), (nested(4), 1)])
        self.assert_too_deep(5, [([([1], 1), (nested(3), 1), ([2], 1)], 1), (nested(3), 1)])

    def test_blocks_of_0_times_count(self):
        self.assert_too_deep(4, nested(4, 0))
        self.assert_too_deep(4, [(nested(3), 0), ([1], 2)])

    def test_too_deep_comes_ahead_of_negative_times(self):
        self.assert_too_deep(4, nested(4, -1))
        self.assert_too_deep(4, [([1], -5), (nested(3), 1)])
        self.assert_too_deep(5, [([1], 1), (nested(4, -2), -1)])

    def test_rows_are_no_blocks(self):
        # An empty list is a row, however deep it lies.
        self.assertEqual(far_value(MIXED, [([([([], 1), ([], 2)], 1)], 1)]), 2)


class NegativeTimes(unittest.TestCase):
    def assert_refused(self, times, blocks):
        before = copy.deepcopy(blocks)
        for formula in (MIXED, NOTHING, ONE):
            with self.assertRaises(InvalidNumber) as caught:
                far_value(formula, blocks)
            self.assertEqual(caught.exception.value, times)
        self.assertEqual(blocks, before)

    def test_each_block(self):
        for place in range(4):
            blocks = [([1], 1), ([], 0), ([2, 3], 5), ([4], VAST)]
            blocks[place] = (blocks[place][0], -3)
            self.assert_refused(-3, blocks)

    def test_the_first_one_from_left_to_right(self):
        self.assert_refused(-2, [([1], 1), ([1], -2), ([1], -1), ([1], -3)])
        self.assert_refused(-VAST, [([1], 1), ([], -VAST), ([1], -1)])

    def test_within_blocks(self):
        self.assert_refused(-4, [([([1], 2), ([1], -4)], 1)])
        self.assert_refused(-4, [([([1], 2), ([([1], 1), ([2], -4)], 3)], 1), ([1], -5)])
        self.assert_refused(-5, [([([1], 2), ([([1], 1), ([2], 4)], 3)], 1), ([1], -5)])

    def test_each_block_is_ahead_of_those_in_its_part(self):
        self.assert_refused(-1, [([([1], -2)], -1)])
        self.assert_refused(-1, [([([([1], -3)], -2)], -1)])
        self.assert_refused(-2, [([([([1], -3)], -2)], 1)])
        self.assert_refused(-3, [([([([1], -3)], 2), ([1], -4)], 1), ([1], -5)])

    def test_those_in_a_part_are_ahead_of_the_next_block(self):
        self.assert_refused(-2, [([([1], -2)], 1), ([1], -1)])

    def test_within_blocks_of_0_times(self):
        self.assert_refused(-6, [([([1], -6)], 0)])
        self.assert_refused(-6, [([([([], -6)], 0)], 0)])

    def test_0_times_is_right(self):
        self.assertEqual(far_value(ONE, [([1], 0)]), 1)


class Arguments(unittest.TestCase):
    def test_blocks_and_formulas_that_were_passed_stay(self):
        written = [(2, [1, 0]), (0, []), (2, [1, 0])]
        formula = Formula(written)
        blocks = [([([1, 2], 3), ([], 1)], 2), ([3], VAST)]
        before = copy.deepcopy(blocks)
        first = far_value(formula, blocks)
        self.assertEqual(far_value(formula, blocks), first)
        self.assertEqual(blocks, before)
        self.assertEqual(formula.terms, written)


if __name__ == "__main__":
    unittest.main()
