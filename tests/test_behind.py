"""Point [7]: the first row behind which a formula parts two rows."""

import copy
import random
import unittest

from nestsums import keepers
from nestsums.formulas import Formula, word_formula
from nestsums.joins import scaled
from nestsums.keepers import parting_behind

from walks import first_unlike, lists_within, mixed_formula, rows_up_to, share_no_list, walked_value

NOTHING = Formula([])
PAIRS = word_formula([1, 1])
ROWS = rows_up_to(2, [0, 1, 3]) + [[2, 2], [1, 1, 1], [3, 0, 1, 2], [-1, 1], [-2, -1, 0]]


class Names(unittest.TestCase):
    def test_it_is_defined_in_the_file_that_lists_it(self):
        self.assertEqual(parting_behind.__module__, "nestsums.keepers")
        self.assertIs(vars(keepers)["parting_behind"], parting_behind)

    def test_arguments_may_be_passed_by_name(self):
        self.assertEqual(parting_behind(other_row=[3], row=[1, 2], formula=PAIRS), ([], 2))
        self.assertEqual(parting_behind(row=[3], formula=PAIRS, other_row=[1, 2]), ([], -2))


class FirstRows(unittest.TestCase):
    def assert_first(self, formula, row, other_row, most_letters, numbers):
        """Check the first further row against a walk over all of them."""
        wanted = first_unlike(
            lambda further: formula.value_on(row + further),
            lambda further: formula.value_on(other_row + further),
            rows_up_to(most_letters, numbers),
        )
        self.assertEqual(parting_behind(formula, row, other_row), wanted, (formula.terms, row, other_row))
        return wanted

    def test_mixed_formulas(self):
        chance = random.Random(260)
        lengths = []
        for _ in range(60):
            formula = mixed_formula(chance, 4, 3, 2)
            for row in chance.sample(ROWS, 4):
                for other_row in chance.sample(ROWS, 4):
                    told = self.assert_first(formula, row, other_row, 3, [0, 1, 2, 3])
                    lengths.append(None if told is None else len(told[0]))
        self.assertLessEqual({None, 0, 1}, set(lengths))

    def test_single_words(self):
        lengths = []
        for word in ([2], [1, 2], [0, 3], [1, 2, 1], [1, 1, 0], [1, 2, 0, 3], [1, 0, 0, 2], [2, 1, 4, 4]):
            for row in ROWS:
                for other_row in ([1, 3], [3, 1], [2, 2], [0, 1, 3]):
                    told = self.assert_first(word_formula(word), row, other_row, 3, [0, 1, 2, 3, 4])
                    lengths.append(None if told is None else len(told[0]))
        self.assertEqual(set(lengths), {None, 0, 1, 2, 3})

    def test_words_of_five_letters_up_to_4(self):
        for word in ([1, 0, 4, 2, 3], [1, 4, 4, 4, 4], [2, 0, 0, 0, 0], [1, 2, 3, 4, 0]):
            for row, other_row in (([1], [2]), ([1, 3], [2, 2]), ([1, 2], [2, 1]), ([], [1]), ([0, 0, 1], [1, 0])):
                self.assert_first(word_formula(word), row, other_row, 4, [0, 1, 2, 3, 4])

    def test_formulas_with_words_of_five_letters(self):
        chance = random.Random(261)
        for _ in range(20):
            formula = mixed_formula(chance, 5, 5, 4, 10 ** 6)
            for row, other_row in (([1, 2], [2, 1]), ([1, 0, 1], [0, 1, 1]), ([2], [])):
                self.assert_first(formula, row, other_row, 4, [0, 1, 2, 3, 4])

    def test_four_numbers_are_needed(self):
        # The further row has to take part with all letters but the first one.
        told = parting_behind(word_formula([2, 4, 1, 3, 2]), [1], [2])
        self.assertEqual(told, ([1, 1, 1, 1], -3))
        told = parting_behind(word_formula([2, 0, 0, 0, 0]), [1], [2])
        self.assertEqual(told, ([0, 0, 0, 0], -3))

    def test_numbers_from_0_on_are_tried_in_their_sequence(self):
        formula = Formula([(1, [1, 2]), (-3, [1, 1]), (2, [1, 0])])
        # Behind a first number, 1 and 2 make 0 of it; 0 does not.
        self.assertEqual(parting_behind(formula, [1], [0]), ([0], 2))
        formula = Formula([(1, [1, 3]), (-3, [1, 2]), (2, [1, 1])])
        self.assertEqual(parting_behind(formula, [1], [0]), ([3], 6))
        formula = Formula([(1, [1, 4]), (-6, [1, 3]), (11, [1, 2]), (-6, [1, 1])])
        self.assertEqual(parting_behind(formula, [1], [0]), ([4], 24))

    def test_the_other_way_about_with_the_other_sign(self):
        chance = random.Random(262)
        for _ in range(60):
            formula = mixed_formula(chance, 4, 4, 3)
            row, other_row = chance.sample(ROWS, 2)
            told = parting_behind(formula, row, other_row)
            other = parting_behind(formula, other_row, row)
            if told is None:
                self.assertIsNone(other)
            else:
                self.assertEqual(other, (told[0], -told[1]))
            self.assertEqual(parting_behind(scaled(formula, -1), row, other_row), other)

    def test_a_further_row_goes_behind_both(self):
        told = parting_behind(word_formula([1, 0]), [2, 5], [5, 2])
        self.assertEqual(told, ([], -3))
        told = parting_behind(word_formula([0, 1]), [2, 5], [5, 2])
        self.assertEqual(told, ([], 3))
        self.assertEqual(parting_behind(word_formula([1, 0]), [], [0]), None)
        self.assertEqual(parting_behind(word_formula([0, 1]), [], [0]), ([1], -1))


class NoRow(unittest.TestCase):
    def test_equal_rows(self):
        chance = random.Random(263)
        for row in ROWS:
            self.assertIsNone(parting_behind(mixed_formula(chance, 6, 5, 4), row, list(row)))

    def test_formulas_that_are_always_0(self):
        for formula in (NOTHING, Formula([(3, [1, 2]), (-3, [1, 2])]), Formula([(0, [1])])):
            self.assertIsNone(parting_behind(formula, [1, 2], [3]))

    def test_numbers_alone(self):
        self.assertIsNone(parting_behind(Formula([(7, [])]), [1, 2], [3]))

    def test_rows_that_are_taken_for_one_another(self):
        self.assertIsNone(parting_behind(PAIRS, [1, 3], [3, 1]))
        self.assertIsNone(parting_behind(PAIRS, [1, 3], [0, 3, 0, 1]))
        self.assertIsNone(parting_behind(word_formula([2, 1, 1, 1]), [], [0]))
        self.assertIsNone(parting_behind(word_formula([0, 1]), [1, 2, 1], [2, 0, 2]))


class Far(unittest.TestCase):
    def test_long_rows_of_great_numbers(self):
        chance = random.Random(264)
        row = [chance.randint(-10 ** 6, 10 ** 6) for _ in range(40)]
        other_row = row[:20] + [row[20] + 1] + row[21:]
        for word in ([4, 4, 4, 4, 4], [1, 0, 4, 2, 3]):
            further, difference = parting_behind(word_formula(word), row, other_row)
            self.assertEqual(further, [])
            self.assertEqual(difference, word_formula(word).value_on(row) - word_formula(word).value_on(other_row))

    def test_the_difference_is_that_of_the_values(self):
        formula = Formula([(10 ** 6, [3, 4, 3, 4, 3]), (-999983, [0, 2, 0])])
        further, difference = parting_behind(formula, [10 ** 6], [-10 ** 6])
        self.assertEqual(further, [1, 1, 1, 1])
        values = [walked_value(formula.terms, row + further) for row in ([10 ** 6], [-10 ** 6])]
        self.assertEqual(values[0] - values[1], difference)


class Arguments(unittest.TestCase):
    def test_nothing_that_is_passed_is_changed(self):
        formula = Formula([(2, [1, 2]), (0, [3]), (1, [2, 1]), (-1, [2, 1])])
        row, other_row = [3, 1], [1, 3]
        before = copy.deepcopy([formula.terms, row, other_row])
        parting_behind(formula, row, other_row)
        self.assertEqual([formula.terms, row, other_row], before)

    def test_the_row_that_is_told_is_new(self):
        row, other_row = [1], [2]
        first = parting_behind(word_formula([1, 1, 1]), row, other_row)
        second = parting_behind(word_formula([1, 1, 1]), row, other_row)
        self.assertIsInstance(first, tuple)
        self.assertTrue(share_no_list(first, second, row, other_row))
        self.assertEqual(len(lists_within(first)), 1)
        first[0].append(7)
        self.assertEqual(parting_behind(word_formula([1, 1, 1]), row, other_row), second)


if __name__ == "__main__":
    unittest.main()
