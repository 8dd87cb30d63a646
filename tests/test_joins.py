"""Points [3], [4], [5], [7]: formulas put together, and rows that are changed or put together."""

import copy
import random
import unittest
from math import comb

from nestsums import joins
from nestsums.errors import InvalidNumber
from nestsums.formulas import Formula, word_formula
from nestsums.forms import plain
from nestsums.joins import (
    added,
    begun,
    cuts,
    ended,
    moved,
    product,
    repeated,
    scaled,
    stretched,
    turned,
)

from walks import (
    carried_on,
    is_plain,
    lists_within,
    mixed_formula,
    rows_up_to,
    share_no_list,
    walked_sum,
    walked_value,
    words_up_to,
)

ALL = [added, scaled, product, turned, stretched, moved, begun, ended, repeated, cuts]
ROWS = rows_up_to(3, [-1, 0, 2])
SOME_ROWS = ROWS[::2]
NOTHING = Formula([])
ONE = Formula([(1, [])])
# Terms that cancel, a word that stands twice, the empty word, coefficient 0.
CROWDED = Formula([(3, [1, 2]), (2, []), (-3, [1, 2]), (5, [0, 1]), (0, [4]), (5, [0, 1])])


class Joins(unittest.TestCase):
    """What the tests of all joins share."""

    def assert_values(self, told, wanted, rows=ROWS):
        """Check that a plain formula was told that has the wanted value on each row."""
        self.assertIsInstance(told, Formula)
        self.assertTrue(is_plain(told), told.terms)
        for row in rows:
            self.assertEqual(walked_value(told.terms, row), wanted(row), row)

    def some_formulas(self, seed, many, most_terms=4, most_letters=3, greatest=3):
        """Return mixed formulas, and those that stand at the edges."""
        chance = random.Random(seed)
        edges = [NOTHING, ONE, CROWDED, Formula([(0, [1])]), word_formula([0]), word_formula([0, 0, 0])]
        return edges + [mixed_formula(chance, most_terms, most_letters, greatest) for _ in range(many)]


class Names(unittest.TestCase):
    def test_they_are_defined_in_the_file_that_lists_them(self):
        for each in ALL:
            self.assertEqual(each.__module__, "nestsums.joins")
            self.assertIs(vars(joins)[each.__name__], each)

    def test_arguments_may_be_passed_by_name(self):
        one, other = word_formula([1, 2]), word_formula([0])
        self.assertEqual(added(other_formula=one, formula=other), added(other, one))
        self.assertEqual(scaled(number=3, formula=one), scaled(one, 3))
        self.assertEqual(product(other_formula=one, formula=other), product(other, one))
        self.assertEqual(turned(formula=one), turned(one))
        self.assertEqual(stretched(factor=3, formula=one), stretched(one, 3))
        self.assertEqual(moved(step=3, formula=one), moved(one, 3))
        self.assertEqual(begun(row=[3, 1], formula=one), begun(one, [3, 1]))
        self.assertEqual(ended(row=[3, 1], formula=one), ended(one, [3, 1]))
        self.assertEqual(repeated(many=3, formula=one), repeated(one, 3))
        self.assertEqual(cuts(formula=one), cuts(one))


class Added(Joins):
    def test_values(self):
        formulas = self.some_formulas(40, 10)
        for one in formulas:
            for other in formulas:
                self.assert_values(
                    added(one, other),
                    lambda row: walked_value(one.terms, row) + walked_value(other.terms, row),
                    SOME_ROWS,
                )

    def test_terms(self):
        one, other = Formula([(2, [1, 1]), (3, [2])]), Formula([(-3, [2]), (4, []), (5, [1, 1])])
        self.assertEqual(added(one, other).terms, [(4, []), (7, [1, 1])])
        self.assertEqual(added(one, NOTHING).terms, [(3, [2]), (2, [1, 1])])
        self.assertEqual(added(NOTHING, CROWDED).terms, [(2, []), (10, [0, 1])])
        self.assertEqual(added(NOTHING, NOTHING).terms, [])
        self.assertEqual(added(one, one).terms, [(6, [2]), (4, [1, 1])])

    def test_all_that_cancels(self):
        self.assertEqual(added(Formula([(7, [3])]), Formula([(-7, [3])])).terms, [])


class Scaled(Joins):
    def test_values(self):
        for formula in self.some_formulas(41, 12):
            for number in (-2, -1, 0, 1, 3, 10 ** 30):
                told = scaled(formula, number)
                self.assert_values(told, lambda row: number * walked_value(formula.terms, row), SOME_ROWS)

    def test_terms(self):
        self.assertEqual(scaled(CROWDED, -3).terms, [(-6, []), (-30, [0, 1])])
        self.assertEqual(scaled(CROWDED, 1).terms, plain(CROWDED).terms)
        self.assertEqual(scaled(word_formula([4, 4]), -10 ** 30).terms, [(-10 ** 30, [4, 4])])
        self.assertEqual(scaled(NOTHING, 5).terms, [])

    def test_number_0_leaves_no_terms(self):
        self.assertEqual(scaled(CROWDED, 0).terms, [])


class Products(Joins):
    def test_all_pairs_of_short_words(self):
        words = words_up_to(2, [0, 1, 2])
        rows = rows_up_to(4, [-1, 0, 2])
        for one in words:
            for other in words:
                told = product(word_formula(one), word_formula(other))
                self.assert_values(told, lambda row: walked_sum(one, row) * walked_sum(other, row), rows)

    def test_mixed_formulas(self):
        formulas = self.some_formulas(42, 8)
        rows = rows_up_to(2, [0, 1, 2])
        rows += [[1, -2, 3, 0], [2, 2, -1, 1, 3], [1, 3, -1, 2, 2, -2], [1, 2, 3, -4, 5, 6, 0]]
        for one in formulas:
            for other in formulas:
                self.assert_values(
                    product(one, other), lambda row: walked_value(one.terms, row) * walked_value(other.terms, row), rows
                )

    def test_terms(self):
        self.assertEqual(product(word_formula([1]), word_formula([2])).terms, [(1, [3]), (1, [1, 2]), (1, [2, 1])])
        self.assertEqual(product(word_formula([1]), word_formula([1])).terms, [(1, [2]), (2, [1, 1])])
        self.assertEqual(
            product(word_formula([1, 2]), word_formula([4])).terms,
            [(1, [1, 6]), (1, [5, 2]), (1, [1, 2, 4]), (1, [1, 4, 2]), (1, [4, 1, 2])],
        )
        self.assertEqual(product(CROWDED, Formula([(-2, [])])).terms, [(-4, []), (-20, [0, 1])])

    def test_by_no_words_and_by_no_terms(self):
        for formula in self.some_formulas(43, 5):
            self.assertEqual(product(formula, ONE), plain(formula))
            self.assertEqual(product(ONE, formula), plain(formula))
            self.assertEqual(product(formula, NOTHING), NOTHING)
            self.assertEqual(product(NOTHING, formula), NOTHING)

    def test_coefficients_that_cancel(self):
        # (a + b) (a - b) has no mixed products.
        one, other = Formula([(1, [1]), (1, [2])]), Formula([(1, [1]), (-1, [2])])
        self.assertEqual(product(one, other).terms, [(1, [2]), (-1, [4]), (2, [1, 1]), (-2, [2, 2])])

    def test_the_number_of_the_words_with_six_letters_together(self):
        # Powers of 2 as letters, so that no two ways give one word.
        for many, wanted in ((0, 1), (1, 11), (2, 41), (3, 63)):
            letters = [1, 2, 4, 8, 16, 32]
            told = product(word_formula(letters[:many]), word_formula(letters[many:]))
            self.assertEqual(len(told.terms), wanted)

    def test_at_the_bounds(self):
        chance = random.Random(44)
        rows = [[chance.randint(-10 ** 6, 10 ** 6) for _ in range(many)] for many in (2, 6, 8)]
        for many in (1, 2, 3):
            one = Formula([(-10 ** 6, [chance.randint(0, 4) for _ in range(many)]) for _ in range(6)])
            other = Formula([(10 ** 6, [chance.randint(0, 4) for _ in range(6 - many)]) for _ in range(6)])
            told = product(one, other)
            for row in rows:
                self.assertEqual(told.value_on(row), one.value_on(row) * other.value_on(row))

    def test_formulas_that_joins_return_may_be_passed_on(self):
        one, other = moved(word_formula([4, 3, 4]), 7), moved(Formula([(1, [3, 4, 4]), (2, [4])]), -5)
        told = product(one, other)
        row = [3, -1, 4, 1, -5, 9, 2]
        self.assertTrue(is_plain(told))
        self.assertEqual(told.value_on(row), one.value_on(row) * other.value_on(row))


class Turned(Joins):
    def test_values(self):
        for formula in self.some_formulas(45, 20):
            self.assert_values(turned(formula), lambda row: walked_value(formula.terms, row[::-1]))

    def test_terms_are_ordered_anew(self):
        formula = Formula([(1, [0, 4, 1]), (2, [3, 0, 0]), (4, [2, 1]), (5, [1, 2]), (7, [])])
        self.assertEqual(turned(formula).terms, [(7, []), (4, [1, 2]), (5, [2, 1]), (2, [0, 0, 3]), (1, [1, 4, 0])])
        self.assertEqual(turned(CROWDED).terms, [(2, []), (10, [1, 0])])
        self.assertEqual(turned(NOTHING).terms, [])


class Stretched(Joins):
    def test_values(self):
        for formula in self.some_formulas(46, 12):
            for factor in (-3, -1, 0, 1, 2, 10 ** 30):
                told = stretched(formula, factor)
                self.assert_values(told, lambda row: walked_value(formula.terms, [factor * v for v in row]), SOME_ROWS)

    def test_terms(self):
        formula = Formula([(5, [4, 0, 3]), (2, [0, 0]), (3, [1]), (7, [])])
        self.assertEqual(stretched(formula, -2).terms, [(7, []), (-6, [1]), (2, [0, 0]), (-640, [4, 0, 3])])
        self.assertEqual(stretched(formula, 10 ** 30).terms[-1], (5 * 10 ** 210, [4, 0, 3]))

    def test_factor_0_leaves_words_of_letter_0_alone(self):
        formula = Formula([(5, [4, 0, 3]), (2, [0, 0]), (3, [1]), (7, []), (1, [0])])
        self.assertEqual(stretched(formula, 0).terms, [(7, []), (1, [0]), (2, [0, 0])])


class Moved(Joins):
    def test_values(self):
        for formula in self.some_formulas(47, 12, greatest=4):
            for step in (-2, -1, 0, 1, 3, 10 ** 30):
                told = moved(formula, step)
                self.assert_values(told, lambda row: walked_value(formula.terms, [v + step for v in row]), SOME_ROWS)

    def test_terms(self):
        self.assertEqual(moved(word_formula([2]), 3).terms, [(9, [0]), (6, [1]), (1, [2])])
        self.assertEqual(moved(word_formula([4]), -1).terms, [(1, [0]), (-4, [1]), (6, [2]), (-4, [3]), (1, [4])])
        self.assertEqual(moved(word_formula([0, 0]), 5).terms, [(1, [0, 0])])
        self.assertEqual(moved(word_formula([1, 2]), 1).terms, [
            (1, [0, 0]), (2, [0, 1]), (1, [0, 2]), (1, [1, 0]), (2, [1, 1]), (1, [1, 2]),
        ])
        self.assertEqual(moved(Formula([(3, [1]), (7, [])]), 10 ** 30).terms, [(7, []), (3 * 10 ** 30, [0]), (3, [1])])

    def test_step_0_gives_the_plain_one(self):
        for formula in self.some_formulas(48, 5):
            self.assertEqual(moved(formula, 0), plain(formula))

    def test_coefficients_that_cancel(self):
        # The square of v - 1, with 1 added.
        self.assertEqual(moved(Formula([(1, [2]), (-2, [1]), (1, [0])]), 1).terms, [(1, [2])])
        self.assertEqual(moved(Formula([(1, [1]), (1, [0])]), -1).terms, [(1, [1])])

    def test_at_the_bounds(self):
        formula = Formula([(10 ** 6, [4] * 5), (-10 ** 6, [4, 3, 4, 3, 4])])
        told = moved(formula, -10 ** 30)
        row = [10 ** 30 + v for v in (5, -2, 0, 1, 3, 7)]
        self.assertEqual(len(told.terms), 5 ** 5)
        self.assertEqual(told.value_on(row), formula.value_on([5, -2, 0, 1, 3, 7]))

    def test_words_that_products_make(self):
        formula = product(word_formula([4, 4, 2]), Formula([(1, [3, 4, 0]), (2, [1])]))
        told = moved(formula, 2)
        row = [1, -2, 3, 0, 2, -1, 4]
        self.assertTrue(is_plain(told))
        self.assertEqual(told.value_on(row), formula.value_on([v + 2 for v in row]))


class BegunAndEnded(Joins):
    given = [[], [0], [3], [2, -1], [0, 0, 1], [1, 2, -2, 1, 0]]

    def test_values_of_begun(self):
        for formula in self.some_formulas(49, 12):
            for row in self.given:
                self.assert_values(begun(formula, row), lambda behind: walked_value(formula.terms, row + behind))

    def test_values_of_ended(self):
        for formula in self.some_formulas(50, 12):
            for row in self.given:
                self.assert_values(ended(formula, row), lambda ahead: walked_value(formula.terms, ahead + row))

    def test_terms(self):
        pairs, later = word_formula([1, 1]), word_formula([1, 2])
        self.assertEqual(begun(pairs, [3]).terms, [(3, [1]), (1, [1, 1])])
        self.assertEqual(ended(pairs, [3]).terms, [(3, [1]), (1, [1, 1])])
        self.assertEqual(begun(later, [3]).terms, [(3, [2]), (1, [1, 2])])
        self.assertEqual(ended(later, [3]).terms, [(9, [1]), (1, [1, 2])])
        self.assertEqual(begun(later, [2, 3]).terms, [(18, []), (5, [2]), (1, [1, 2])])
        self.assertEqual(ended(later, [2, 3]).terms, [(18, []), (13, [1]), (1, [1, 2])])

    def test_an_empty_row_gives_the_plain_one(self):
        for formula in self.some_formulas(51, 5):
            self.assertEqual(begun(formula, []), plain(formula))
            self.assertEqual(ended(formula, []), plain(formula))

    def test_coefficients_that_cancel(self):
        formula = Formula([(1, [1, 1]), (-3, [1])])
        self.assertEqual(begun(formula, [3]).terms, [(-9, []), (1, [1, 1])])
        self.assertEqual(begun(word_formula([1, 0]), [0, 0]).terms, [(1, [1, 0])])

    def test_at_the_bounds(self):
        chance = random.Random(52)
        given, row = [[chance.randint(-10 ** 6, 10 ** 6) for _ in range(20)] for _ in range(2)]
        formula = Formula([(-10 ** 6, [chance.randint(0, 4) for _ in range(5)]) for _ in range(6)])
        self.assertEqual(begun(formula, given).value_on(row), formula.value_on(given + row))
        self.assertEqual(ended(formula, given).value_on(row), formula.value_on(row + given))


class Repeated(Joins):
    def test_values(self):
        for formula in self.some_formulas(53, 12, 3, 3):
            for many in (0, 1, 2, 3, 4):
                told = repeated(formula, many)
                self.assert_values(told, lambda row: walked_value(formula.terms, row * many), SOME_ROWS)

    def test_words_of_four_letters(self):
        chance = random.Random(54)
        for _ in range(6):
            formula = Formula([(chance.randint(-9, 9), [chance.randint(0, 4) for _ in range(4)]) for _ in range(3)])
            for many in (0, 1, 2, 3, 5):
                rows = [[], [3], [1, -2], [2, 0, 1]]
                self.assert_values(repeated(formula, many), lambda row: walked_value(formula.terms, row * many), rows)

    def test_terms(self):
        self.assertEqual(repeated(word_formula([1, 1]), 3).terms, [(3, [2]), (9, [1, 1])])
        self.assertEqual(repeated(word_formula([1, 2]), 2).terms, [(1, [3]), (3, [1, 2]), (1, [2, 1])])
        self.assertEqual(repeated(Formula([(4, []), (3, [2])]), 5).terms, [(4, []), (15, [2])])

    def test_0_times_leaves_the_empty_word_alone(self):
        self.assertEqual(repeated(CROWDED, 0).terms, [(2, [])])
        self.assertEqual(repeated(word_formula([0, 0, 0, 0]), 0).terms, [])
        self.assertEqual(repeated(NOTHING, 0).terms, [])

    def test_once_gives_the_plain_one(self):
        for formula in self.some_formulas(55, 5):
            self.assertEqual(repeated(formula, 1), plain(formula))

    def test_coefficients_that_cancel(self):
        # On two rows the sum of [2] comes twice, and once more from [1, 1].
        self.assertEqual(repeated(Formula([(2, [1, 1]), (-1, [2])]), 2).terms, [(8, [1, 1])])

    def test_a_great_many_times(self):
        many = 10 ** 30
        for letters in range(5):
            told = repeated(word_formula([0] * letters), many)
            self.assertEqual(told.value_on([7]), comb(many, letters))
            self.assertEqual(told.value_on([7, 8, 9]), comb(3 * many, letters))
            self.assertEqual(told.value_on([]), comb(0, letters))
        told = repeated(word_formula([1, 1]), many)
        self.assertEqual(told.terms, [(many * (many - 1) // 2, [2]), (many * many, [1, 1])])

    def test_the_value_is_a_polynomial_in_the_number_of_times(self):
        chance = random.Random(56)
        for _ in range(8):
            formula = Formula([(chance.randint(-9, 9), [chance.randint(0, 4) for _ in range(4)]) for _ in range(3)])
            row = [chance.randint(-3, 3) for _ in range(3)]
            values = [walked_value(formula.terms, row * many) for many in range(5)]
            for many in (6, 10 ** 6, 10 ** 30):
                self.assertEqual(repeated(formula, many).value_on(row), carried_on(values, many))

    def test_negative_numbers_of_times(self):
        for formula in (NOTHING, ONE, CROWDED, word_formula([1, 1])):
            for many in (-1, -2, -10 ** 30):
                with self.subTest(formula=formula.terms, many=many):
                    with self.assertRaises(InvalidNumber) as caught:
                        repeated(formula, many)
                    self.assertEqual(caught.exception.value, many)
        with self.assertRaises(InvalidNumber) as caught:
            repeated(many=-7, formula=ONE)
        self.assertEqual(caught.exception.value, -7)


class Cuts(Joins):
    def assert_cuts(self, formula, rows):
        told = cuts(formula)
        keys = [((len(word), word), (len(other), other)) for _, word, other in told]
        self.assertTrue(all(one < other for one, other in zip(keys, keys[1:])), keys)
        self.assertNotIn(0, [coefficient for coefficient, _, _ in told])
        for row in rows:
            for behind in rows:
                wanted = walked_value(formula.terms, row + behind)
                value = sum(c * walked_sum(word, row) * walked_sum(other, behind) for c, word, other in told)
                self.assertEqual(value, wanted, (row, behind))

    def test_values(self):
        for formula in self.some_formulas(57, 20):
            self.assert_cuts(formula, rows_up_to(2, [-1, 0, 2]))

    def test_long_words(self):
        chance = random.Random(58)
        formula = Formula([(chance.randint(-9, 9), [chance.randint(0, 4) for _ in range(5)]) for _ in range(6)])
        self.assertEqual(len(cuts(formula)), 36)
        self.assert_cuts(formula, [[chance.randint(-3, 3) for _ in range(many)] for many in range(6)])

    def test_terms(self):
        self.assertEqual(cuts(word_formula([1, 2])), [(1, [], [1, 2]), (1, [1], [2]), (1, [1, 2], [])])
        self.assertEqual(cuts(CROWDED), [(2, [], []), (10, [], [0, 1]), (10, [0], [1]), (10, [0, 1], [])])
        self.assertEqual(cuts(Formula([(-4, [])])), [(-4, [], [])])

    def test_no_terms_and_terms_that_cancel(self):
        self.assertEqual(cuts(NOTHING), [])
        self.assertEqual(cuts(Formula([(3, [1, 2]), (-3, [1, 2]), (0, [])])), [])

    def test_words_are_ordered_by_their_number_of_letters(self):
        told = cuts(Formula([(1, [2, 0]), (3, [2]), (5, [0, 1, 1]), (7, [2, 4])]))
        self.assertEqual(told, [
            (3, [], [2]), (1, [], [2, 0]), (7, [], [2, 4]), (5, [], [0, 1, 1]),
            (5, [0], [1, 1]), (3, [2], []), (1, [2], [0]), (7, [2], [4]),
            (5, [0, 1], [1]), (1, [2, 0], []), (7, [2, 4], []), (5, [0, 1, 1], []),
        ])

    def test_lists_are_new(self):
        formula = word_formula([1, 2])
        first, second = cuts(formula), cuts(formula)
        self.assertTrue(share_no_list(first, second))
        first[1][1].append(9)
        first.pop()
        self.assertEqual(cuts(formula), second)
        # Two empty words for the cuts at the ends.
        self.assertEqual(len(lists_within(second)), 7)


class Arguments(unittest.TestCase):
    def calls(self, one, other, row):
        """Return what all joins tell of the arguments."""
        return [
            added(one, other), scaled(one, 0), scaled(one, 5), product(one, other), turned(one), stretched(one, 2),
            moved(one, 2), begun(one, row), ended(one, row), repeated(one, 3), cuts(one),
        ]

    def test_formulas_and_rows_that_were_passed_stay(self):
        written = [(2, [1, 2]), (0, []), (2, [1, 2]), (-4, [3])]
        one, other, row = Formula(written), Formula(written[::-1]), [3, 0, -1]
        before = copy.deepcopy(written)
        self.calls(one, other, row)
        with self.assertRaises(InvalidNumber):
            repeated(one, -1)
        self.assertEqual([one.terms, other.terms, row], [before, before[::-1], [3, 0, -1]])

    def test_what_was_told_stays_when_other_things_change(self):
        one, other, row = Formula([(2, [1, 2])]), word_formula([3]), [3, 0, -1]
        told = self.calls(one, other, row)
        row.clear()
        for each in told[:-1]:
            each.terms.append((1, [1]))
            for _, word in each.terms:
                word.append(1)
        for _, word, other_word in told[-1]:
            word.append(1)
            other_word.clear()
        self.assertEqual(self.calls(one, other, [3, 0, -1])[:-1], told[:-1])

    def test_all_formulas_are_plain(self):
        crowded = Formula([(1, [1, 2]), (3, [0]), (0, []), (-1, [1, 2]), (1, [2, 1, 0]), (2, [0])])
        for each in self.calls(crowded, crowded, [3, -1])[:-1]:
            self.assertTrue(is_plain(each), each.terms)


if __name__ == "__main__":
    unittest.main()
