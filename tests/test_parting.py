"""Points [3], [5], [7]: the first row on which formulas part, and rows of bits and of signs."""

import random
import unittest
from itertools import combinations, product

from nestsums.errors import InvalidKind
from nestsums.formulas import Formula, word_formula
from nestsums.forms import are_alike, plain
from nestsums.parting import on_kind, parting, parting_among

from walks import (
    first_unlike,
    is_plain,
    mixed_formula,
    rows_up_to,
    share_no_list,
    walked_sum,
    walked_value,
    words_up_to,
)

KINDS = {"bits": [0, 1], "signs": [-1, 1]}
WRONG_KINDS = ["", "bit", "Bits", "BITS", "bits ", " signs", "sign", "signsbits", "bits,signs", "numbers", "0", "s"]
NOTHING = Formula([])


def walked_parting(formula, other_formula, rows):
    """Return what the first of the rows tells on which two formulas part, by walks."""
    terms, other_terms = formula.terms, other_formula.terms
    return first_unlike(lambda row: walked_value(terms, row), lambda row: walked_value(other_terms, row), rows)


class Names(unittest.TestCase):
    def test_they_are_defined_in_the_file_that_lists_them(self):
        for each in (parting, on_kind, parting_among):
            self.assertEqual(each.__module__, "nestsums.parting")

    def test_arguments_may_be_passed_by_name(self):
        one, other = word_formula([2]), word_formula([1])
        self.assertEqual(parting(formula=one, other_formula=other), ([2], 2))
        self.assertEqual(parting(other_formula=one, formula=other), ([2], -2))
        self.assertEqual(on_kind(kind="bits", formula=one).terms, [(1, [1])])
        self.assertEqual(on_kind(formula=one, kind="signs").terms, [(1, [0])])
        self.assertEqual(parting_among(formula=one, other_formula=other, kind="signs"), ([-1], 2))
        self.assertEqual(parting_among(kind="signs", other_formula=one, formula=other), ([-1], -2))


class Parting(unittest.TestCase):
    def test_all_pairs_of_short_words(self):
        rows = rows_up_to(3, [0, 1, 2, 3])
        for one, other in product(words_up_to(2, [0, 1, 2]) + [[1, 2, 1], [2, 1, 1]], repeat=2):
            formula, other_formula = word_formula(one), word_formula(other)
            wanted = walked_parting(formula, other_formula, rows)
            self.assertEqual(parting(formula, other_formula), wanted, (one, other))

    def test_mixed_short_formulas(self):
        # Among the numbers 0 to 3 are more than the letters 0 to 2 have roots.
        rows = rows_up_to(3, [0, 1, 2, 3])
        chance = random.Random(10)
        found = set()
        for _ in range(400):
            formula, other_formula = mixed_formula(chance, 4, 3, 2, 2), mixed_formula(chance, 4, 3, 2, 2)
            wanted = walked_parting(formula, other_formula, rows)
            self.assertEqual(parting(formula, other_formula), wanted, (formula.terms, other_formula.terms))
            found.add(None if wanted is None else len(wanted[0]))
        self.assertEqual(found, {None, 0, 1, 2, 3})

    def test_long_words_with_letters_up_to_4(self):
        chance = random.Random(11)
        for many in (4, 5):
            # Shorter rows are gone through in the other tests.
            rows = [list(row) for row in product(range(6), repeat=many)]
            for _ in range(12):
                first = [[chance.randint(0, 4) for _ in range(many)] for _ in range(6)]
                formula = Formula([(chance.randint(-9, 9), word) for word in first[:3]])
                other_formula = Formula([(chance.randint(-9, 9), word) for word in first[3:]])
                wanted = walked_parting(formula, other_formula, rows)
                self.assertEqual(parting(formula, other_formula), wanted, (formula.terms, other_formula.terms))

    def test_differences_with_many_roots(self):
        # v (v - 1) (v - 2) (v - 3), and the same for the second number with 2 v for the first one.
        roots = [(1, [4]), (-6, [3]), (11, [2]), (-6, [1])]
        self.assertEqual(parting(Formula(roots), NOTHING), ([4], 24))
        self.assertEqual(parting(Formula(roots[:2]), Formula([(-c, word) for c, word in roots[2:]])), ([4], 24))
        behind = Formula([(2 * coefficient, [1] + word) for coefficient, word in roots])
        self.assertEqual(parting(behind, NOTHING), ([1, 4], 48))
        ahead = Formula([(coefficient, word + [0]) for coefficient, word in roots])
        self.assertEqual(parting(ahead, NOTHING), ([4, 0], 24))
        self.assertEqual(parting(word_formula([4] * 5), Formula([(1, [4, 4, 4, 4, 3])])), ([1, 1, 1, 1, 2], 8))

    def test_a_row_may_begin_with_a_number_that_lets_other_terms_through(self):
        # x y - y, x y - x x and x y y - x x y, each on its first row.
        self.assertEqual(parting(word_formula([1, 1]), word_formula([0, 1])), ([0, 1], -1))
        self.assertEqual(parting(word_formula([1, 1]), word_formula([2, 0])), ([1, 0], -1))
        self.assertEqual(parting(word_formula([1, 2]), word_formula([2, 1])), ([1, 2], 2))

    def test_longer_words_play_no_part(self):
        one = Formula([(5, [1]), (10 ** 6, [1, 1]), (7, [0, 0, 0])])
        self.assertEqual(parting(one, Formula([(4, [1]), (-10 ** 6, [0, 0])])), ([1], 1))
        self.assertEqual(parting(Formula([(1, []), (9, [4] * 5)]), Formula([(3, [])])), ([], -2))

    def test_the_row_is_as_long_as_the_shortest_word_of_the_difference(self):
        for many in range(6):
            formula = Formula([(3, [1] * many), (1, [2])])
            other = Formula([(1, [2]), (5, [0] * (many + 1))])
            row, _ = parting(formula, other)
            self.assertEqual(len(row), many)

    def test_all_that_differs_by_coefficients_that_cancel(self):
        one = Formula([(2, [3]), (1, [1, 2]), (-2, [3]), (4, [])])
        self.assertEqual(parting(one, Formula([(4, []), (1, [2, 1])])), ([1, 2], 2))
        self.assertIsNone(parting(one, Formula([(1, [1, 2]), (2, []), (0, [1]), (2, [])])))

    def test_formulas_that_are_alike(self):
        spread = Formula([(1, [2, 0]), (-2, [1, 1]), (1, [0, 2])])
        self.assertIsNone(parting(spread, spread))
        self.assertIsNone(parting(spread, Formula(spread.terms[::-1])))
        self.assertIsNone(parting(NOTHING, NOTHING))
        self.assertIsNone(parting(NOTHING, Formula([(3, [1]), (-3, [1])])))
        self.assertIsNone(parting(Formula([(0, [4])]), NOTHING))

    def test_no_words_and_no_terms(self):
        self.assertEqual(parting(word_formula([]), NOTHING), ([], 1))
        self.assertEqual(parting(NOTHING, word_formula([])), ([], -1))
        self.assertEqual(parting(NOTHING, word_formula([0])), ([0], -1))
        self.assertEqual(parting(word_formula([0, 0, 0]), NOTHING), ([0, 0, 0], 1))

    def test_the_other_way_about_it_has_the_other_sign(self):
        chance = random.Random(12)
        for _ in range(100):
            one, other = mixed_formula(chance, 6, 5, 4), mixed_formula(chance, 6, 5, 4)
            told, turned = parting(one, other), parting(other, one)
            if told is None:
                self.assertIsNone(turned)
            else:
                self.assertEqual(turned, (told[0], -told[1]))

    def test_on_the_row_the_formulas_part_by_the_difference(self):
        chance = random.Random(13)
        for _ in range(100):
            one, other = mixed_formula(chance, 6, 5, 4, 10 ** 6), mixed_formula(chance, 6, 5, 4, 10 ** 6)
            told = parting(one, other)
            self.assertEqual(told is None, are_alike(one, other))
            if told is not None:
                row, difference = told
                self.assertEqual(walked_value(one.terms, row) - walked_value(other.terms, row), difference)
                self.assertNotEqual(difference, 0)

    def test_kinds_of_values(self):
        told = parting(word_formula([1]), NOTHING)
        self.assertIs(type(told), tuple)
        self.assertIs(type(told[0]), list)
        self.assertEqual([type(each) for each in told[0] + [told[1]]], [int, int])

    def test_great_letters_and_words_that_products_make(self):
        self.assertEqual(parting(word_formula([12, 20]), word_formula([20, 12])), ([1, 2], 2 ** 20 - 2 ** 12))
        self.assertEqual(parting(word_formula([1] * 6), word_formula([1] * 5 + [2])), ([1] * 5 + [2], -2))


class OnKind(unittest.TestCase):
    def test_all_letters(self):
        letters = {"bits": [0, 1, 1, 1, 1, 1], "signs": [0, 1, 0, 1, 0, 1]}
        for kind, wanted in letters.items():
            for letter in range(6):
                self.assertEqual(on_kind(word_formula([letter]), kind).terms, [(1, [wanted[letter]])])
            self.assertEqual(on_kind(word_formula([0, 1, 2, 3, 4]), kind).terms, [(1, wanted[:5])])

    def test_words_that_come_together(self):
        formula = Formula([(1, [2]), (5, [0, 0]), (2, [1]), (4, [3]), (8, [0]), (3, []), (1, [2, 0])])
        self.assertEqual(on_kind(formula, "bits").terms, [(3, []), (8, [0]), (7, [1]), (5, [0, 0]), (1, [1, 0])])
        self.assertEqual(on_kind(formula, "signs").terms, [(3, []), (9, [0]), (6, [1]), (6, [0, 0])])

    def test_words_that_cancel(self):
        self.assertEqual(on_kind(Formula([(1, [2]), (-1, [1])]), "bits").terms, [])
        self.assertEqual(on_kind(Formula([(1, [2]), (-1, [1])]), "signs").terms, [(1, [0]), (-1, [1])])
        self.assertEqual(on_kind(Formula([(7, [4, 3]), (-7, [0, 1]), (2, [])]), "signs").terms, [(2, [])])
        self.assertEqual(on_kind(Formula([(0, [2])]), "signs").terms, [])

    def test_no_words_and_no_terms(self):
        for kind in KINDS:
            self.assertEqual(on_kind(NOTHING, kind).terms, [])
            self.assertEqual(on_kind(word_formula([]), kind).terms, [(1, [])])

    def test_mixed_formulas_on_all_rows_of_the_kind(self):
        chance = random.Random(14)
        for kind, numbers in KINDS.items():
            rows = rows_up_to(6, numbers)
            for _ in range(40):
                formula = mixed_formula(chance, 6, 5, 4)
                told = on_kind(formula, kind)
                self.assertTrue(is_plain(told))
                self.assertLessEqual({letter for _, word in told.terms for letter in word}, {0, 1})
                for row in rows:
                    self.assertEqual(walked_value(told.terms, row), walked_value(formula.terms, row), (kind, row))

    def test_formulas_with_the_same_values_have_the_same_one(self):
        words = words_up_to(2, [0, 1, 2, 3])
        for kind, numbers in KINDS.items():
            rows = rows_up_to(2, numbers)
            for one, other in combinations(words, 2):
                wanted = all(walked_sum(one, row) == walked_sum(other, row) for row in rows)
                self.assertIs(on_kind(word_formula(one), kind) == on_kind(word_formula(other), kind), wanted)


class PartingAmong(unittest.TestCase):
    def test_all_pairs_of_short_words(self):
        for kind, numbers in KINDS.items():
            rows = rows_up_to(3, numbers)
            for one, other in product(words_up_to(2, [0, 1, 2]) + [[1, 2, 1], [2, 0, 1]], repeat=2):
                formula, other_formula = word_formula(one), word_formula(other)
                wanted = walked_parting(formula, other_formula, rows)
                self.assertEqual(parting_among(formula, other_formula, kind), wanted, (kind, one, other))

    def test_mixed_formulas(self):
        chance = random.Random(15)
        for kind, numbers in KINDS.items():
            rows = rows_up_to(5, numbers)
            found = set()
            for _ in range(150):
                formula, other_formula = mixed_formula(chance, 3, 5, 4, 1), mixed_formula(chance, 3, 5, 4, 1)
                wanted = walked_parting(formula, other_formula, rows)
                self.assertEqual(parting_among(formula, other_formula, kind), wanted)
                found.add(None if wanted is None else len(wanted[0]))
            self.assertLessEqual({None, 0, 1, 2, 3, 4}, found)

    def test_long_words(self):
        chance = random.Random(16)
        for kind, numbers in KINDS.items():
            rows = [list(row) for row in product(numbers, repeat=5)]
            for _ in range(60):
                words = [[chance.randint(0, 4) for _ in range(5)] for _ in range(6)]
                formula = Formula([(chance.randint(-3, 3), word) for word in words[:3]])
                other_formula = Formula([(chance.randint(-3, 3), word) for word in words[3:]])
                wanted = walked_parting(formula, other_formula, rows)
                self.assertEqual(parting_among(formula, other_formula, kind), wanted)

    def test_formulas_that_are_not_alike_but_the_same_on_the_kind(self):
        self.assertIsNone(parting_among(word_formula([2, 3]), word_formula([1, 4]), "bits"))
        self.assertIsNone(parting_among(word_formula([2, 3]), word_formula([4, 1]), "signs"))
        self.assertIsNone(parting_among(Formula([(1, [2]), (-1, [0])]), NOTHING, "signs"))

    def test_formulas_that_part_on_one_kind_alone(self):
        one, other = word_formula([2]), word_formula([0])
        self.assertEqual(parting_among(one, other, "bits"), ([0], -1))
        self.assertIsNone(parting_among(one, other, "signs"))
        one, other = word_formula([1, 2]), word_formula([1, 1])
        self.assertIsNone(parting_among(one, other, "bits"))
        self.assertEqual(parting_among(one, other, "signs"), ([-1, -1], -2))

    def test_no_words_and_no_terms(self):
        for kind in KINDS:
            self.assertIsNone(parting_among(NOTHING, NOTHING, kind))
            self.assertEqual(parting_among(NOTHING, word_formula([]), kind), ([], -1))
            self.assertEqual(parting_among(Formula([(4, [])]), NOTHING, kind), ([], 4))

    def test_the_other_way_about_it_has_the_other_sign(self):
        one, other = Formula([(3, [1, 1]), (5, [2, 0])]), Formula([(2, [0, 2])])
        self.assertEqual(parting_among(one, other, "bits"), ([0, 1], -2))
        self.assertEqual(parting_among(other, one, "bits"), ([0, 1], 2))
        self.assertEqual(parting_among(one, other, "signs"), ([-1, -1], 6))
        self.assertEqual(parting_among(other, one, "signs"), ([-1, -1], -6))


class WrongKinds(unittest.TestCase):
    def assert_refused(self, kind, call, *arguments):
        with self.assertRaises(InvalidKind) as caught:
            call(*arguments, kind)
        self.assertEqual(caught.exception.value, kind)

    def test_all_but_both(self):
        for kind in WRONG_KINDS:
            with self.subTest(kind=kind):
                self.assert_refused(kind, on_kind, word_formula([2]))
                self.assert_refused(kind, parting_among, word_formula([2]), word_formula([1]))

    def test_where_there_is_nothing_to_tell(self):
        for kind in WRONG_KINDS:
            with self.subTest(kind=kind):
                self.assert_refused(kind, on_kind, NOTHING)
                self.assert_refused(kind, parting_among, NOTHING, NOTHING)
                self.assert_refused(kind, parting_among, word_formula([3]), word_formula([3]))

    def test_by_name(self):
        with self.assertRaises(InvalidKind) as caught:
            on_kind(formula=NOTHING, kind="rows")
        self.assertEqual(caught.exception.value, "rows")


class Arguments(unittest.TestCase):
    def test_formulas_that_were_passed_stay(self):
        written = [(2, [1, 4]), (0, []), (-1, [3]), (-1, [3])]
        formula, other_formula = Formula(written), Formula(written[1:])
        parting(formula, other_formula)
        for kind in KINDS:
            on_kind(formula, kind)
            parting_among(formula, other_formula, kind)
        with self.assertRaises(InvalidKind):
            on_kind(formula, "none")
        self.assertEqual([formula.terms, other_formula.terms], [written, written[1:]])

    def test_returned_lists_are_new(self):
        one, other = word_formula([1, 2]), word_formula([2, 1])
        first = parting(one, other)
        self.assertTrue(share_no_list(first, parting(one, other)))
        first[0].append(7)
        self.assertEqual(parting(one, other), ([1, 2], 2))
        third = parting_among(one, other, "signs")
        self.assertTrue(share_no_list(third, parting_among(one, other, "signs")))
        third[0].clear()
        self.assertEqual(parting_among(one, other, "signs"), ([-1, 1], -2))
        told = on_kind(one, "bits").terms
        told[0][1].append(5)
        self.assertEqual(on_kind(one, "bits"), plain(word_formula([1, 1])))


if __name__ == "__main__":
    unittest.main()
