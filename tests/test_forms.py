"""Points [4], [5], [7]: the order of words, plain formulas, and which ones are alike."""

import copy
import random
import unittest
from itertools import combinations, permutations, product

from nestsums.formulas import Formula, word_formula
from nestsums.forms import are_alike, classes, length_of, plain

from walks import rows_up_to, words_up_to

SPREAD = [(1, [2, 0]), (-2, [1, 1]), (1, [0, 2])]


def mixed_terms(chance):
    """Return the terms of a formula in which words often come twice and cancel."""
    return [
        (chance.randint(-2, 2), [chance.randint(0, 1) for _ in range(chance.randint(0, 2))])
        for _ in range(chance.randint(0, 6))
    ]


class Names(unittest.TestCase):
    def test_they_are_defined_in_the_file_that_lists_them(self):
        for each in (plain, are_alike, length_of, classes):
            self.assertEqual(each.__module__, "nestsums.forms")

    def test_arguments_may_be_passed_by_name(self):
        formula, other = Formula(SPREAD), Formula(SPREAD[::-1])
        self.assertEqual(plain(formula=formula), plain(formula))
        self.assertIs(are_alike(formula=formula, other_formula=other), True)
        self.assertIs(are_alike(other_formula=word_formula([]), formula=formula), False)
        self.assertEqual(length_of(formula=formula), 2)
        self.assertEqual(classes(formulas=[formula, other]), [[0, 1]])


class Plain(unittest.TestCase):
    def assert_plain(self, formula):
        words = [word for _, word in formula.terms]
        keys = [(len(word), word) for word in words]
        self.assertEqual(keys, sorted(keys))
        self.assertEqual(len(keys), len({tuple(word) for word in words}))
        self.assertNotIn(0, [coefficient for coefficient, _ in formula.terms])

    def test_words_ascend_by_their_number_of_letters_then_as_lists(self):
        ordered = [[], [0], [1], [3], [4], [0, 0], [0, 4], [1, 0], [4, 0], [0, 0, 0], [0, 1, 0], [1, 0, 0], [0] * 5]
        for words in (ordered[::-1], ordered[1::2] + ordered[::2], ordered):
            told = plain(Formula([(1, word) for word in words])).terms
            self.assertEqual(told, [(1, word) for word in ordered])

    def test_all_pairs_of_short_words(self):
        words = words_up_to(3, [0, 1, 2])
        for one, other in combinations(words, 2):
            told = plain(Formula([(2, other), (3, one)])).terms
            self.assertEqual(told, [(3, one), (2, other)])

    def test_a_word_that_stands_in_several_terms(self):
        told = plain(Formula([(2, [1, 1]), (5, [3]), (3, [1, 1]), (-1, [3]), (1, [1, 1])])).terms
        self.assertEqual(told, [(4, [3]), (6, [1, 1])])

    def test_terms_that_cancel(self):
        self.assertEqual(plain(Formula([(1, [2]), (3, []), (-1, [2]), (2, [1])])).terms, [(3, []), (2, [1])])
        self.assertEqual(plain(Formula([(1, [2]), (2, [2]), (-3, [2]), (4, [1, 1])])).terms, [(4, [1, 1])])

    def test_all_terms_that_cancel(self):
        self.assertEqual(plain(Formula([(7, [1, 2]), (1, []), (-7, [1, 2]), (-1, [])])).terms, [])

    def test_coefficient_0_from_the_start(self):
        self.assertEqual(plain(Formula([(0, [1]), (2, [3]), (0, [])])).terms, [(2, [3])])
        self.assertEqual(plain(Formula([(0, [1])])).terms, [])

    def test_negative_coefficients_stay(self):
        self.assertEqual(plain(Formula([(-10 ** 6, [4] * 5), (-1, [])])).terms, [(-1, []), (-10 ** 6, [4] * 5)])

    def test_no_terms(self):
        self.assertEqual(plain(Formula([])), Formula([]))

    def test_plain_of_a_plain_one_is_equal(self):
        chance = random.Random(1)
        for _ in range(300):
            told = plain(Formula(mixed_terms(chance)))
            self.assert_plain(told)
            self.assertEqual(plain(told), told)

    def test_all_sequences_of_the_terms_have_one_plain_one(self):
        terms = [(1, [2]), (2, []), (-4, [0, 1]), (3, [2])]
        for written in permutations(terms):
            self.assertEqual(plain(Formula(list(written))).terms, [(2, []), (4, [2]), (-4, [0, 1])])

    def test_the_plain_one_has_the_same_values(self):
        chance = random.Random(2)
        rows = rows_up_to(3, [-1, 0, 2])
        for _ in range(60):
            formula = Formula(mixed_terms(chance))
            told = plain(formula)
            for row in rows:
                self.assertEqual(told.value_on(row), formula.value_on(row), (formula.terms, row))

    def test_lists_of_the_plain_one_are_new(self):
        formula = Formula([(1, [1, 2])])
        plain(formula).terms[0][1].append(5)
        self.assertEqual(formula.terms, [(1, [1, 2])])
        self.assertEqual(plain(formula).terms, [(1, [1, 2])])


class Alike(unittest.TestCase):
    def test_two_writings_of_one_formula(self):
        for terms in (
            SPREAD[::-1],
            [(1, [2, 0]), (-1, [1, 1]), (-1, [1, 1]), (1, [0, 2])],
            SPREAD + [(0, [3])],
            SPREAD + [(5, []), (-5, [])],
        ):
            with self.subTest(terms=terms):
                self.assertIs(are_alike(Formula(SPREAD), Formula(terms)), True)
                self.assertIs(are_alike(Formula(terms), Formula(SPREAD)), True)

    def test_formulas_that_are_not_alike(self):
        for terms in (
            [],
            [(1, [2, 0]), (1, [0, 2])],
            SPREAD + [(1, [])],
            [(-coefficient, word) for coefficient, word in SPREAD],
            [(1, [2, 0]), (-2, [1, 1]), (1, [0, 3])],
        ):
            with self.subTest(terms=terms):
                self.assertIs(are_alike(Formula(SPREAD), Formula(terms)), False)
                self.assertIs(are_alike(Formula(terms), Formula(SPREAD)), False)

    def test_words_turned_and_words_with_zeros_are_not_alike(self):
        self.assertIs(are_alike(word_formula([1, 2]), word_formula([2, 1])), False)
        self.assertIs(are_alike(word_formula([0]), word_formula([])), False)
        self.assertIs(are_alike(word_formula([1]), word_formula([1, 0])), False)

    def test_all_terms_cancel(self):
        self.assertIs(are_alike(Formula([(2, [1]), (-2, [1])]), Formula([])), True)
        self.assertIs(are_alike(Formula([]), Formula([])), True)

    def test_exactly_those_with_the_same_values_on_short_rows(self):
        # Rows of the numbers 0 to 2 tell formulas with at most two letters,
        # each at most 1, apart [7].
        rows = rows_up_to(2, [0, 1, 2])
        chance = random.Random(3)
        found = []
        for _ in range(400):
            one, other = Formula(mixed_terms(chance)), Formula(mixed_terms(chance))
            wanted = [one.value_on(row) for row in rows] == [other.value_on(row) for row in rows]
            self.assertIs(are_alike(one, other), wanted, (one.terms, other.terms))
            found.append(wanted)
        self.assertEqual(set(found), {True, False})


class Length(unittest.TestCase):
    def test_the_longest_word(self):
        for word in words_up_to(3, [0, 2]):
            self.assertEqual(length_of(word_formula(word)), len(word))
        self.assertEqual(length_of(Formula([(1, [4] * 5), (1, []), (1, [1])])), 5)
        self.assertEqual(length_of(Formula([(1, []), (1, [0, 0]), (1, [9])])), 2)

    def test_without_terms(self):
        self.assertEqual(length_of(Formula([])), -1)

    def test_where_all_terms_cancel(self):
        self.assertEqual(length_of(Formula([(3, [1, 2]), (-3, [1, 2])])), -1)
        self.assertEqual(length_of(Formula([(0, [1])])), -1)

    def test_where_the_longest_words_cancel(self):
        self.assertEqual(length_of(Formula([(3, [1, 2]), (1, [4]), (-3, [1, 2])])), 1)
        self.assertEqual(length_of(Formula([(0, [1, 1, 1]), (2, [])])), 0)


class Classes(unittest.TestCase):
    def test_all_ways_to_choose_one_to_four_formulas(self):
        # The first two are alike, so are the next two.
        kinds = [0, 0, 1, 1, 2]
        pool = [
            Formula(SPREAD),
            Formula(SPREAD[::-1]),
            Formula([]),
            Formula([(1, [1]), (-1, [1])]),
            word_formula([1]),
        ]
        for many in range(1, 5):
            for chosen in product(range(5), repeat=many):
                told = classes([pool[place] for place in chosen])
                self.assertEqual(told, self.grouped([kinds[place] for place in chosen]), chosen)

    def grouped(self, kinds):
        """Return the lists of the indices of equal kinds, ordered by their first ones."""
        firsts = [index for index, kind in enumerate(kinds) if kind not in kinds[:index]]
        return [[index for index, kind in enumerate(kinds) if kind == kinds[first]] for first in firsts]

    def test_they_are_ordered_by_their_first_ones(self):
        one, other = word_formula([2]), word_formula([1])
        self.assertEqual(classes([one, other, other, one]), [[0, 3], [1, 2]])
        self.assertEqual(classes([other, one, other, one]), [[0, 2], [1, 3]])

    def test_each_time_the_lists_are_new(self):
        formulas = [word_formula([1]), word_formula([1]), word_formula([2])]
        first = classes(formulas)
        first[0].append(9)
        first.pop()
        self.assertEqual(classes(formulas), [[0, 1], [2]])


class Arguments(unittest.TestCase):
    def test_nothing_that_is_passed_is_changed(self):
        written = [[(2, [1]), (0, []), (-2, [1])], SPREAD, [(1, [0, 3]), (1, [])], SPREAD[::-1]]
        formulas = [Formula(terms) for terms in copy.deepcopy(written)]
        passed = list(formulas)
        for formula in formulas:
            plain(formula)
            length_of(formula)
        are_alike(formulas[0], formulas[1])
        classes(passed)
        self.assertEqual([formula.terms for formula in formulas], written)
        self.assertEqual(len(passed), 4)
        for one, other in zip(passed, formulas):
            self.assertIs(one, other)

    def test_a_list_that_was_passed_may_be_changed(self):
        passed = [word_formula([1]), word_formula([2])]
        told = classes(passed)
        passed.clear()
        self.assertEqual(told, [[0], [1]])


if __name__ == "__main__":
    unittest.main()
