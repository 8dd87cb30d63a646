"""Points [2], [4], [5]: words, formulas and their values on rows."""

import copy
import random
import unittest
from itertools import combinations
from math import comb

from nestsums import formulas
from nestsums.errors import InvalidWord
from nestsums.formulas import Formula, word_formula

from walks import rows_up_to, walked_sum, walked_value, words_up_to


class Names(unittest.TestCase):
    def test_they_are_defined_in_the_file_that_lists_them(self):
        self.assertEqual(Formula.__module__, "nestsums.formulas")
        self.assertEqual(word_formula.__module__, "nestsums.formulas")

    def test_the_methods_stand_in_the_class_itself(self):
        self.assertIsInstance(vars(formulas.Formula)["terms"], property)
        self.assertTrue(callable(vars(formulas.Formula)["value_on"]))

    def test_arguments_may_be_passed_by_name(self):
        self.assertEqual(Formula(terms=[(2, [1])]), Formula([(2, [1])]))
        self.assertEqual(Formula([(2, [1])]).value_on(row=[3, 4]), 14)
        self.assertEqual(word_formula(word=[1, 2]), word_formula([1, 2]))


class Terms(unittest.TestCase):
    def test_they_are_told_as_they_were_passed(self):
        for terms in (
            [],
            [(0, [])],
            [(2, [1]), (-2, [1])],
            [(1, [3, 0]), (-5, []), (0, [2]), (1, [0, 3]), (1, [3, 0])],
        ):
            with self.subTest(terms=terms):
                told = Formula(terms).terms
                self.assertEqual(told, terms)
                self.assertIsInstance(told, list)
                for term in told:
                    self.assertIsInstance(term, tuple)
                    self.assertIsInstance(term[1], list)

    def test_the_one_term_of_a_word_formula(self):
        for word in ([], [0], [2, 1, 1], [4, 0, 4, 0, 4]):
            with self.subTest(word=word):
                self.assertEqual(word_formula(word).terms, [(1, word)])
                self.assertEqual(word_formula(word), Formula([(1, word)]))

    def test_lists_that_were_passed_may_be_changed(self):
        word, other_word = [1, 2], [3]
        terms = [(2, word), (5, other_word)]
        formula = Formula(terms)
        word.append(-1)
        other_word[0] = 0
        terms.reverse()
        terms.append((7, []))
        self.assertEqual(formula.terms, [(2, [1, 2]), (5, [3])])
        self.assertEqual(formula.value_on([1, 2]), walked_value([(2, [1, 2]), (5, [3])], [1, 2]))

    def test_the_word_of_a_word_formula_may_be_changed(self):
        word = [1, 2]
        formula = word_formula(word)
        word.clear()
        self.assertEqual(formula.terms, [(1, [1, 2])])

    def test_lists_that_were_told_may_be_changed(self):
        formula = Formula([(2, [1, 2]), (5, [3])])
        told = formula.terms
        told[0][1].append(4)
        told[1][1][0] = -1
        told.pop()
        self.assertEqual(formula.terms, [(2, [1, 2]), (5, [3])])
        self.assertEqual(formula, Formula([(2, [1, 2]), (5, [3])]))

    def test_lists_that_are_told_twice_are_new_at_every_depth(self):
        word = [1, 2]
        formula = Formula([(2, word), (2, word)])
        first, second = formula.terms, formula.terms
        self.assertIsNot(first, second)
        lists = [first[0][1], first[1][1], second[0][1], second[1][1], word]
        for one, other in combinations(lists, 2):
            self.assertIsNot(one, other)

    def test_the_terms_cannot_be_assigned(self):
        with self.assertRaises(AttributeError):
            Formula([]).terms = [(1, [])]

    def test_nothing_that_is_passed_is_changed(self):
        terms, row, word = [(2, [1, 0]), (0, []), (2, [1, 0])], [3, -1, 0], [2, 1]
        before = copy.deepcopy([terms, row, word])
        formula = Formula(terms)
        formula.value_on(row)
        word_formula(word).value_on(row)
        self.assertEqual([terms, row, word], before)
        self.assertEqual(formula.terms, before[0])


class WordCheck(unittest.TestCase):
    def number_of(self, terms):
        """Return the number that Formula names as that of a wrong term."""
        with self.assertRaises(InvalidWord) as caught:
            Formula(terms)
        return caught.exception.value

    def test_the_first_the_middle_and_the_last_term(self):
        good = [(1, [1]), (2, []), (0, [0, 4]), (1, [1])]
        for number in range(len(good)):
            terms = good[:number] + [(1, [-1])] + good[number + 1:]
            with self.subTest(number=number):
                self.assertEqual(self.number_of(terms), number)

    def test_the_first_one_of_several(self):
        self.assertEqual(self.number_of([(1, [-1]), (1, [-2]), (1, [-1])]), 0)
        self.assertEqual(self.number_of([(1, [1]), (1, [2, -2]), (1, []), (1, [-1])]), 1)
        self.assertEqual(self.number_of([(1, [1]), (1, []), (1, [0, -3]), (1, [-10 ** 30])]), 2)

    def test_a_negative_letter_at_any_place(self):
        for many in range(1, 6):
            for place in range(many):
                word = [0] * many
                word[place] = -1
                with self.subTest(word=word):
                    self.assertEqual(self.number_of([(1, []), (1, word)]), 1)

    def test_a_wrong_word_counts_even_with_coefficient_0(self):
        self.assertEqual(self.number_of([(3, [1]), (0, [1, -1])]), 1)

    def test_word_formula_names_0(self):
        for word in ([-1], [1, 2, -4], [0, -1, 0], [-10 ** 30, 1]):
            with self.subTest(word=word):
                with self.assertRaises(InvalidWord) as caught:
                    word_formula(word)
                self.assertEqual(caught.exception.value, 0)

    def test_letter_0_and_the_empty_word_are_right(self):
        self.assertEqual(Formula([(1, [0]), (1, []), (1, [0, 0])]).terms, [(1, [0]), (1, []), (1, [0, 0])])
        self.assertEqual(word_formula([]).terms, [(1, [])])
        self.assertEqual(word_formula([0]).terms, [(1, [0])])

    def test_a_refused_call_changes_nothing(self):
        terms = [(1, [1]), (1, [2, -1])]
        self.number_of(terms)
        self.assertEqual(terms, [(1, [1]), (1, [2, -1])])


class Equality(unittest.TestCase):
    def assert_equal_both_ways(self, one, other, wanted):
        self.assertIs(one == other, wanted)
        self.assertIs(other == one, wanted)
        self.assertIs(one != other, not wanted)
        self.assertIs(other != one, not wanted)

    def test_the_same_terms_in_the_same_sequence(self):
        for terms in ([], [(1, [])], [(2, [1]), (0, [3]), (2, [1])]):
            with self.subTest(terms=terms):
                self.assert_equal_both_ways(Formula(terms), Formula(copy.deepcopy(terms)), True)

    def test_alike_ones_that_are_written_otherwise(self):
        formula = Formula([(1, [1]), (2, [2, 0])])
        for terms in (
            [(2, [2, 0]), (1, [1])],
            [(1, [1]), (1, [2, 0]), (1, [2, 0])],
            [(1, [1]), (2, [2, 0]), (0, [])],
        ):
            with self.subTest(terms=terms):
                self.assert_equal_both_ways(formula, Formula(terms), False)
        self.assert_equal_both_ways(Formula([]), Formula([(0, [])]), False)

    def test_other_terms(self):
        formula = Formula([(1, [1, 2])])
        for terms in ([], [(2, [1, 2])], [(1, [2, 1])], [(1, [1])], [(1, [1, 2]), (1, [1, 2])]):
            with self.subTest(terms=terms):
                self.assert_equal_both_ways(formula, Formula(terms), False)

    def test_nothing_else_is_equal(self):
        for terms in ([], [(1, [])], [(2, [1, 2])]):
            formula = Formula(terms)
            for thing in (terms, tuple(terms), (2, [1, 2]), 0, 1, str(terms), "", None, True, {}):
                with self.subTest(terms=terms, thing=thing):
                    self.assert_equal_both_ways(formula, thing, False)


class Values(unittest.TestCase):
    def test_all_short_words_on_all_short_rows(self):
        rows = rows_up_to(4, [-2, 0, 1, 3])
        for word in words_up_to(3, [0, 1, 2]):
            formula = word_formula(word)
            for row in rows:
                self.assertEqual(formula.value_on(row), walked_sum(word, row), (word, row))

    def test_the_empty_word_is_1_on_every_row(self):
        for row in ([], [0], [5, -5], [0] * 40):
            with self.subTest(row=row):
                self.assertEqual(word_formula([]).value_on(row), 1)

    def test_a_row_shorter_than_the_word(self):
        for many in range(1, 6):
            for fewer in range(many):
                with self.subTest(many=many, fewer=fewer):
                    self.assertEqual(word_formula([0] * many).value_on([7] * fewer), 0)

    def test_0_to_the_power_0_is_1(self):
        self.assertEqual(word_formula([0]).value_on([0, 0, 0]), 3)
        self.assertEqual(word_formula([0, 1]).value_on([0, 5]), 5)
        self.assertEqual(word_formula([1, 0]).value_on([5, 0]), 5)
        self.assertEqual(word_formula([1]).value_on([0]), 0)

    def test_the_sequence_of_letters_and_numbers_plays_a_part(self):
        self.assertEqual(word_formula([1, 2]).value_on([2, 3]), 18)
        self.assertEqual(word_formula([2, 1]).value_on([2, 3]), 12)
        self.assertEqual(word_formula([1, 2]).value_on([3, 2]), 12)

    def test_no_number_is_chosen_twice(self):
        self.assertEqual(word_formula([1, 1]).value_on([5]), 0)
        self.assertEqual(word_formula([1, 1]).value_on([5, 7]), 35)

    def test_no_terms(self):
        for row in ([], [3], [0, -1, 2]):
            with self.subTest(row=row):
                value = Formula([]).value_on(row)
                self.assertEqual(value, 0)
                self.assertIs(type(value), int)

    def test_formulas_with_several_terms(self):
        for terms in (
            [(2, [1]), (3, [1])],
            [(2, [1]), (-2, [1])],
            [(0, [2]), (5, [])],
            [(1, [2, 0]), (-2, [1, 1]), (1, [0, 2])],
            [(-7, [1, 0, 2]), (4, []), (3, [4]), (4, []), (1, [1, 0, 2]), (10, [0, 0])],
        ):
            for row in rows_up_to(4, [-3, 0, 2]):
                with self.subTest(terms=terms, row=row):
                    self.assertEqual(Formula(terms).value_on(row), walked_value(terms, row))

    def test_mixed_formulas_on_mixed_rows(self):
        chance = random.Random(20)
        for _ in range(200):
            terms = [
                (chance.randint(-9, 9), [chance.randint(0, 4) for _ in range(chance.randint(0, 5))])
                for _ in range(chance.randint(0, 6))
            ]
            row = [chance.randint(-4, 4) for _ in range(chance.randint(0, 8))]
            with self.subTest(terms=terms, row=row):
                self.assertEqual(Formula(terms).value_on(row), walked_value(terms, row))

    def test_telling_a_value_changes_no_later_one(self):
        formula = Formula([(1, [1, 1]), (2, [1])])
        first = formula.value_on([3, 1, 2])
        formula.value_on([9, 9, 9, 9])
        self.assertEqual([first, formula.value_on([3, 1, 2])], [23, 23])


class Bounds(unittest.TestCase):
    words = [[4, 4, 4, 4, 4], [4, 0, 3, 1, 2], [0, 0, 0, 0, 0], [1, 2, 3, 4, 0], [4, 4, 0, 4, 4], [0, 4, 1, 4, 3]]
    coefficients = [10 ** 6, -10 ** 6, 999999, -1, 10 ** 6, -999983]

    def test_on_mixed_numbers(self):
        chance = random.Random(40)
        row = [10 ** 6, -10 ** 6, 0] + [chance.randint(-10 ** 6, 10 ** 6) for _ in range(37)]
        terms = list(zip(self.coefficients, self.words))
        self.assertEqual(Formula(terms).value_on(row), walked_value(terms, row))

    def test_on_equal_numbers(self):
        for number in (10 ** 6, -10 ** 6, -1, 0):
            wanted = comb(40, 5) * sum(
                coefficient * number ** sum(word) for coefficient, word in zip(self.coefficients, self.words)
            )
            with self.subTest(number=number):
                told = Formula(list(zip(self.coefficients, self.words))).value_on([number] * 40)
                self.assertEqual(told, wanted)


if __name__ == "__main__":
    unittest.main()
