"""Points [1], [3], [5]: sides made of products of sums, and the first row on which they part."""

import copy
import random
import unittest
from itertools import permutations, product

from nestsums.errors import InvalidWord
from nestsums.formulas import Formula
from nestsums.identities import identity_parts, side_formula

from walks import first_unlike, is_plain, rows_up_to, share_no_list, walked_side, walked_value, words_up_to


def mixed_words(chance, most, greatest):
    """Return words with at most so many letters together, empty ones among them."""
    words = []
    left = most
    for _ in range(chance.randint(0, 4)):
        many = chance.randint(0, left)
        left -= many
        words.append([chance.randint(0, greatest) for _ in range(many)])
    return words


def mixed_side(chance, most, greatest, bound=4):
    """Return a side of at most four terms with such words."""
    return [
        (chance.randint(-bound, bound), mixed_words(chance, most, greatest)) for _ in range(chance.randint(0, 4))
    ]


class Names(unittest.TestCase):
    def test_they_are_defined_in_the_file_that_lists_them(self):
        for each in (side_formula, identity_parts):
            self.assertEqual(each.__module__, "nestsums.identities")

    def test_arguments_may_be_passed_by_name(self):
        one, other = [(1, [[0], [0]])], [(2, [[0, 0]])]
        self.assertEqual(side_formula(side=other).terms, [(2, [0, 0])])
        self.assertEqual(identity_parts(side=one, other_side=other), ([0], 1))
        self.assertEqual(identity_parts(other_side=one, side=other), ([0], -1))


class SideFormula(unittest.TestCase):
    def assert_value_on(self, side, rows):
        told = side_formula(side)
        self.assertTrue(is_plain(told), side)
        for row in rows:
            self.assertEqual(walked_value(told.terms, row), walked_side(side, row), (side, row))

    def test_products_of_two_short_words(self):
        rows = rows_up_to(4, [-1, 0, 2])
        for one, other in product(words_up_to(2, [0, 1, 2]), repeat=2):
            self.assert_value_on([(1, [one, other])], rows)

    def test_one_word(self):
        for word in words_up_to(3, [0, 2]):
            self.assertEqual(side_formula([(3, [word])]).terms, [(3, word)])

    def test_known_products(self):
        self.assertEqual(side_formula([(1, [[1], [1]])]).terms, [(1, [2]), (2, [1, 1])])
        self.assertEqual(
            side_formula([(2, [[1], [3, 0]])]).terms,
            [(2, [3, 1]), (2, [4, 0]), (2, [1, 3, 0]), (2, [3, 0, 1]), (2, [3, 1, 0])],
        )
        self.assertEqual(
            side_formula([(1, [[0], [0], [0]])]).terms, [(1, [0]), (6, [0, 0]), (6, [0, 0, 0])]
        )

    def test_no_words_count_as_1(self):
        self.assertEqual(side_formula([(5, [])]).terms, [(5, [])])
        self.assertEqual(side_formula([(5, [[]])]).terms, [(5, [])])
        self.assertEqual(side_formula([(5, [[], [], []])]).terms, [(5, [])])
        self.assertEqual(side_formula([(2, [[], [3], []])]).terms, [(2, [3])])

    def test_no_terms(self):
        self.assertEqual(side_formula([]).terms, [])

    def test_terms_that_cancel(self):
        self.assertEqual(side_formula([(2, [[1], [2]]), (-2, [[2], [1]])]).terms, [])
        self.assertEqual(side_formula([(0, [[1], [2]])]).terms, [])
        self.assertEqual(side_formula([(1, [[1], [1]]), (-2, [[1, 1]])]).terms, [(1, [2])])
        self.assertEqual(side_formula([(1, [[1], [1]]), (-2, [[1, 1]]), (-1, [[2]]), (4, [])]).terms, [(4, [])])

    def test_the_sequence_of_the_words_plays_no_part(self):
        words = [[1, 0], [2], [], [1]]
        told = {str(side_formula([(1, list(written))]).terms) for written in permutations(words)}
        self.assertEqual(len(told), 1)

    def test_mixed_sides(self):
        chance = random.Random(30)
        rows = rows_up_to(3, [0, 1, 2])
        for _ in range(80):
            side = mixed_side(chance, 4, 2)
            more = [[chance.randint(-3, 3) for _ in range(chance.randint(4, 6))] for _ in range(5)]
            self.assert_value_on(side, rows + more)

    def test_words_with_six_letters_together(self):
        chance = random.Random(31)
        for lengths in ([1] * 6, [3, 3], [2, 2, 2], [1, 5], [6], [4, 0, 2], [1, 1, 4]):
            words = [[chance.randint(0, 4) for _ in range(many)] for many in lengths]
            side = [(10 ** 6, words), (-10 ** 6, words[::-1]), (7, words), (1, [[4]])]
            told = side_formula(side)
            self.assertTrue(is_plain(told))
            for many in (0, 1, 2, 6, 7):
                row = [chance.randint(-9, 9) for _ in range(many)]
                self.assertEqual(told.value_on(row), walked_side(side, row), (words, row))

    def test_a_product_of_single_letters_has_all_ways_to_lay_them_together(self):
        # So many ways to put 6 things into ranks.
        told = side_formula([(1, [[1], [2], [4], [8], [16], [32]])])
        self.assertEqual(len(told.terms), 4683)
        self.assertEqual({coefficient for coefficient, _ in told.terms}, {1})


class IdentityParts(unittest.TestCase):
    def test_known_identities(self):
        spread = [(1, [[2, 0]]), (-2, [[1, 1]]), (1, [[0, 2]])]
        self.assertIsNone(identity_parts([(1, [[0], [2]]), (-1, [[1], [1]])], spread))
        self.assertIsNone(identity_parts([(1, [[1], [1]])], [(1, [[2]]), (2, [[1, 1]])]))
        self.assertIsNone(identity_parts([], [(0, [[1]]), (3, []), (-3, [[], []])]))
        self.assertIsNone(identity_parts([], []))
        cube = [(1, [[3]]), (3, [[1, 2]]), (3, [[2, 1]]), (6, [[1, 1, 1]])]
        self.assertIsNone(identity_parts([(1, [[1], [1], [1]])], cube))

    def test_sides_that_part(self):
        self.assertEqual(identity_parts([(1, [[0], [0]])], [(2, [[0, 0]])]), ([0], 1))
        self.assertEqual(identity_parts([(1, [[1], [1]])], [(1, [[2]])]), ([1, 1], 2))
        self.assertEqual(identity_parts([(5, [])], [(7, [[]])]), ([], -2))
        self.assertEqual(identity_parts([(1, [[1], [2]])], [(1, [[2, 1]]), (1, [[3]])]), ([1, 1], 1))
        self.assertEqual(identity_parts([], [(3, [[2], []])]), ([1], -3))

    def test_mixed_sides(self):
        chance = random.Random(32)
        # With 3 letters of at most 1 together, no letter becomes greater than 3.
        rows = rows_up_to(3, [0, 1, 2, 3])
        found = set()
        for _ in range(200):
            side, other_side = mixed_side(chance, 3, 1, 1), mixed_side(chance, 3, 1, 1)
            wanted = first_unlike(lambda row: walked_side(side, row), lambda row: walked_side(other_side, row), rows)
            self.assertEqual(identity_parts(side, other_side), wanted, (side, other_side))
            found.add(None if wanted is None else len(wanted[0]))
        self.assertLessEqual({None, 0, 1, 2}, found)

    def test_the_other_way_about_it_has_the_other_sign(self):
        chance = random.Random(33)
        for _ in range(30):
            side, other_side = mixed_side(chance, 5, 4, 10 ** 6), mixed_side(chance, 5, 4, 10 ** 6)
            told, turned = identity_parts(side, other_side), identity_parts(other_side, side)
            if told is None:
                self.assertIsNone(turned)
            else:
                self.assertEqual(turned, (told[0], -told[1]))
                self.assertEqual(told[1], walked_side(side, told[0]) - walked_side(other_side, told[0]))

    def test_words_with_six_letters_together(self):
        one = [(10 ** 6, [[0], [1], [2], [3], [4], [letter]]) for letter in range(4)]
        self.assertIsNone(identity_parts(one, one[::-1]))
        row, difference = identity_parts(one, one[:3])
        # The last letter is 3: the only product that is missing is that of 0 to 4 and 3.
        self.assertEqual((row, difference), ([1], 10 ** 6))
        other = [(1, [[4, 4, 4], [4, 4, 4]])]
        row, difference = identity_parts(other, [(1, [[4, 4, 4], [4, 4, 3]])])
        self.assertEqual(row, [1, 1, 2])
        self.assertEqual(difference, walked_side(other, row) - 2 ** 4 * 2 ** 3)


class WrongWords(unittest.TestCase):
    def assert_refused(self, number, call, *sides):
        before = copy.deepcopy(sides)
        with self.assertRaises(InvalidWord) as caught:
            call(*sides)
        self.assertEqual(caught.exception.value, number)
        self.assertEqual(sides, before)

    good = [(1, [[1], [2, 0]]), (2, []), (0, [[]]), (1, [[3]])]

    def spoilt(self, number, words):
        return self.good[:number] + [(1, words)] + self.good[number + 1:]

    def test_each_term(self):
        for number in range(4):
            for words in ([[-1]], [[1], [2], [0, -3]], [[], [-10 ** 30, 1]], [[1, -1], [1]]):
                side = self.spoilt(number, words)
                with self.subTest(side=side):
                    self.assert_refused(number, side_formula, side)
                    self.assert_refused(number, identity_parts, side, self.good)
                    self.assert_refused(number, identity_parts, self.good, side)

    def test_the_first_of_several_terms(self):
        side = [(1, [[1]]), (1, [[1], [-2]]), (1, [[-1]]), (1, [[-1]])]
        self.assert_refused(1, side_formula, side)
        self.assert_refused(1, identity_parts, side, [])
        self.assert_refused(1, identity_parts, [], side)

    def test_the_first_side_is_first(self):
        late, early = self.spoilt(3, [[-1]]), self.spoilt(0, [[-1]])
        self.assert_refused(3, identity_parts, late, early)
        self.assert_refused(0, identity_parts, early, late)

    def test_coefficient_0_and_words_behind_a_good_one(self):
        self.assert_refused(0, side_formula, [(0, [[1], [1, -1]])])
        self.assert_refused(1, identity_parts, [(2, []), (0, [[], [-1]])], [(0, [[-1]])])

    def test_letter_0_and_empty_words_are_right(self):
        self.assertEqual(side_formula([(1, [[0], []])]).terms, [(1, [0])])


class Arguments(unittest.TestCase):
    def test_sides_that_were_passed_stay(self):
        side, other_side = [(2, [[1], [], [0, 2]]), (0, [[1]]), (3, [])], [(1, [[4]]), (1, [[4]])]
        before = copy.deepcopy([side, other_side])
        side_formula(side)
        side_formula(other_side)
        identity_parts(side, other_side)
        identity_parts(side, side)
        self.assertEqual([side, other_side], before)

    def test_sides_that_were_passed_may_be_changed(self):
        side = [(2, [[1, 2]])]
        told = side_formula(side)
        side[0][1][0].append(-1)
        side[0][1].append([3])
        side.clear()
        self.assertEqual(told, Formula([(2, [1, 2])]))

    def test_returned_lists_are_new(self):
        side = [(1, [[1, 2]])]
        first = identity_parts(side, [])
        self.assertTrue(share_no_list(first, identity_parts(side, []), side))
        first[0].append(9)
        self.assertEqual(identity_parts(side, []), ([1, 1], 1))
        side_formula(side).terms[0][1].append(3)
        self.assertEqual(side_formula(side).terms, [(1, [1, 2])])


if __name__ == "__main__":
    unittest.main()
