"""Points [3], [5], [7]: relations and mixtures of formulas, by values, by equations, and by a walk over small integers."""

import copy
import random
import unittest
from itertools import product as all_choices

from nestsums import relations as relations_file
from nestsums.formulas import Formula, word_formula
from nestsums.forms import are_alike, classes, plain
from nestsums.identities import identity_parts, side_formula
from nestsums.joins import added, product, scaled
from nestsums.keepers import keeper, shares_in
from nestsums.parting import parting
from nestsums.relations import mixture, relations

from reckoning import echelon, solved, summed
from walks import mixed_formula, rows_up_to, share_no_list, walked_value

NOTHING = Formula([])
CANCELS = Formula([(2, [1]), (0, [4, 4]), (-2, [1])])
PAIRS = word_formula([1, 1])
TWO = word_formula([2])
SQUARE = Formula([(2, [1, 1]), (1, [2])])


def words_in(formulas):
    return sorted({word for formula in formulas for word in summed(formula.terms)})


def numbers_of(formula, words):
    coefficients = summed(formula.terms)
    return [coefficients.get(word, 0) for word in words]


def reckoned_relations(formulas):
    """Return the relations from the echelon rows of the coefficients, with marks behind them."""
    words = words_in(formulas)
    many = len(formulas)
    marks = [[int(place == other) for other in range(many)] for place in range(many)]
    rows = echelon([numbers_of(each, words) + mark for each, mark in zip(formulas, marks)])
    return [row[len(words):] for row in rows if not any(row[:len(words)])]


def total_of(integers, formulas):
    """Return the coefficients other than 0, by words, of the sum of products of integers and formulas."""
    terms = [(integer * c, word) for integer, each in zip(integers, formulas) for c, word in each.terms]
    return summed(terms)


def first_place(integers):
    return next(place for place, integer in enumerate(integers) if integer != 0)


def mixed_lists(seed, many, most=4, greatest=1, most_letters=2, bound=3):
    """Return lists of formulas that often have relations: few words, multiples, sums, formulas that are always 0."""
    chance = random.Random(seed)
    found = []
    for _ in range(many):
        formulas = []
        for _ in range(chance.randint(1, most)):
            formula = mixed_formula(chance, 3, most_letters, greatest, bound)
            if formulas and chance.random() < 0.4:
                formula = added(scaled(chance.choice(formulas), chance.randint(-3, 3)), chance.choice(formulas))
            formulas.append(formula)
        found.append(formulas)
    return found


EDGES = [
    [NOTHING],
    [CANCELS],
    [NOTHING, CANCELS, NOTHING],
    [PAIRS],
    [PAIRS, PAIRS],
    [PAIRS, PAIRS, PAIRS, PAIRS],
    [NOTHING, PAIRS],
    [PAIRS, NOTHING, TWO, CANCELS],
    [Formula([(6, [])]), Formula([(-4, [])])],
    [Formula([(6, [])]), Formula([(10, [])]), Formula([(15, [])])],
    [SQUARE, PAIRS, TWO],
    [TWO, PAIRS, SQUARE, SQUARE],
]


class Names(unittest.TestCase):
    def test_they_are_defined_in_the_file_that_lists_them(self):
        for each in (relations, mixture):
            self.assertEqual(each.__module__, "nestsums.relations")
            self.assertIs(vars(relations_file)[each.__name__], each)

    def test_arguments_may_be_passed_by_name(self):
        self.assertEqual(relations(formulas=[SQUARE, PAIRS, TWO]), [[1, -2, -1]])
        self.assertEqual(mixture(formulas=[SQUARE, PAIRS], wanted=TWO), [1, -2])


class Relations(unittest.TestCase):
    def assert_form(self, told, many):
        places = []
        for integers in told:
            self.assertEqual(len(integers), many)
            places.append(first_place(integers))
            self.assertGreater(integers[places[-1]], 0)
        self.assertEqual(places, sorted(set(places)))
        for lower, place in enumerate(places):
            for integers in told[:lower]:
                self.assertIn(integers[place], range(told[lower][place]))

    def test_mixed_formulas(self):
        found = []
        for formulas in mixed_lists(400, 200) + EDGES:
            told = relations(formulas)
            self.assertEqual(told, reckoned_relations(formulas))
            self.assert_form(told, len(formulas))
            found.append(len(told))
        self.assertEqual(set(found), {0, 1, 2, 3, 4})

    def test_all_small_lists_of_integers(self):
        for formulas in mixed_lists(401, 40, 3) + EDGES:
            told = relations(formulas)
            for integers in all_choices(range(-3, 4), repeat=len(formulas)):
                # Taken off from the top, the steps leave nothing of exactly those that make 0.
                left = list(integers)
                for step in told:
                    times = left[first_place(step)] // step[first_place(step)]
                    left = [number - times * other for number, other in zip(left, step)]
                self.assertEqual(not any(left), total_of(integers, formulas) == {}, (integers, told))

    def test_values_add_up_to_0(self):
        rows = rows_up_to(3, [-1, 0, 2])
        for formulas in mixed_lists(402, 30, 4, 2, 3, 9):
            for integers in relations(formulas):
                for row in rows:
                    total = sum(integer * walked_value(each.terms, row) for integer, each in zip(integers, formulas))
                    self.assertEqual(total, 0)

    def test_as_many_as_formulas_depend_on_others(self):
        for formulas in mixed_lists(403, 60):
            independent = []
            for formula in formulas:
                if solved(independent, summed(formula.terms)) is None:
                    independent.append(summed(formula.terms))
            self.assertEqual(len(relations(formulas)), len(formulas) - len(independent))

    def test_formulas_that_are_always_0(self):
        self.assertEqual(relations([NOTHING]), [[1]])
        self.assertEqual(relations([CANCELS, NOTHING]), [[1, 0], [0, 1]])
        self.assertEqual(relations([PAIRS, CANCELS, TWO]), [[0, 1, 0]])
        self.assertEqual(relations([NOTHING] * 4), [[1, 0, 0, 0], [0, 1, 0, 0], [0, 0, 1, 0], [0, 0, 0, 1]])

    def test_equal_and_alike_formulas(self):
        self.assertEqual(relations([PAIRS, PAIRS]), [[1, -1]])
        self.assertEqual(relations([SQUARE, Formula(SQUARE.terms[::-1] + [(0, [])])]), [[1, -1]])
        self.assertEqual(relations([PAIRS, PAIRS, PAIRS]), [[1, 0, -1], [0, 1, -1]])

    def test_without_relations(self):
        self.assertEqual(relations([PAIRS]), [])
        self.assertEqual(relations([word_formula([]), word_formula([0]), word_formula([0, 0]), TWO]), [])

    def test_multiples(self):
        self.assertEqual(relations([Formula([(6, [1])]), Formula([(-4, [1])])]), [[2, 3]])
        self.assertEqual(relations([Formula([(-6, [1])]), Formula([(4, [1])])]), [[2, 3]])
        self.assertEqual(relations([word_formula([1]), Formula([(10 ** 6, [1])])]), [[10 ** 6, -1]])

    def test_numbers_above_are_from_0_to_one_less(self):
        told = relations([Formula([(number, [])]) for number in (6, 10, 15)])
        self.assertEqual(told, [[5, 0, -2], [0, 3, -2]])
        told = relations([Formula([(number, [])]) for number in (1, 2, 3, 5)])
        self.assertEqual(told, [[1, 0, 3, -2], [0, 1, 1, -1], [0, 0, 5, -3]])

    def test_greatest_coefficients(self):
        chance = random.Random(404)
        formulas = [
            Formula([(chance.randint(-10 ** 6, 10 ** 6), word) for word in ([4, 3], [0, 1], [2])]) for _ in range(4)
        ]
        told = relations(formulas)
        self.assertEqual(told, reckoned_relations(formulas))
        self.assertEqual(len(told), 1)
        self.assertEqual(total_of(told[0], formulas), {})


class ProductsOfWords(unittest.TestCase):
    def test_a_product_among_its_words(self):
        for one in range(5):
            for other in range(one + 1, 5):
                both = product(word_formula([one]), word_formula([other]))
                formulas = [both, word_formula([one, other]), word_formula([other, one]), word_formula([one + other])]
                self.assertEqual(relations(formulas), [[1, -1, -1, -1]])
                self.assertEqual(mixture(both, formulas[1:]), [1, 1, 1])
                self.assertIsNone(mixture(both, formulas[1:3]))

    def test_squares(self):
        for letter in range(5):
            whole = product(word_formula([letter]), word_formula([letter]))
            formulas = [whole, word_formula([letter, letter]), word_formula([2 * letter])]
            self.assertEqual(relations(formulas), [[1, -2, -1]])
            self.assertEqual(mixture(formulas[2], formulas[:2]), [1, -2])
            self.assertIsNone(mixture(formulas[1], [whole, formulas[2]]))
            self.assertEqual(mixture(scaled(formulas[1], 2), [whole, formulas[2]]), [1, -1])

    def test_products_in_another_sequence(self):
        words = [[1, 2], [2], [0, 1]]
        formulas = [product(word_formula(one), word_formula(other)) for one in words for other in words]
        told = relations(formulas)
        wanted = []
        for place, other_place in ((1, 3), (2, 6), (5, 7)):
            integers = [0] * 9
            integers[place], integers[other_place] = 1, -1
            wanted.append(integers)
        self.assertEqual(told, wanted)


class Mixtures(unittest.TestCase):
    def assert_told(self, wanted, formulas):
        """Check a mixture against the echelon rows, and that it is the reduced one."""
        told = mixture(wanted, formulas)
        words = words_in(formulas + [wanted])
        rows = [numbers_of(each, words) for each in formulas]
        can_be_had = echelon(rows) == echelon(rows + [numbers_of(wanted, words)])
        self.assertEqual(told is not None, can_be_had, (wanted.terms, [each.terms for each in formulas]))
        if told is not None:
            self.assertIsInstance(told, list)
            self.assertEqual(len(told), len(formulas))
            self.assertEqual(total_of(told, formulas), summed(wanted.terms))
            for step in reckoned_relations(formulas):
                place = first_place(step)
                self.assertIn(told[place], range(step[place]))
        return told

    def test_mixed_formulas(self):
        chance = random.Random(410)
        found = []
        for formulas in mixed_lists(411, 120) + EDGES:
            for _ in range(3):
                wanted = mixed_formula(chance, 2, 2, 1, 4)
                found.append(self.assert_told(wanted, formulas) is None)
            total = NOTHING
            for formula in formulas:
                total = added(total, scaled(formula, chance.randint(-9, 9)))
            self.assertIsNotNone(self.assert_told(total, formulas))
        self.assertEqual(set(found), {True, False})

    def test_all_small_lists_of_integers(self):
        chance = random.Random(412)
        for formulas in mixed_lists(413, 30, 3):
            integers = [chance.randint(-2, 2) for _ in formulas]
            wanted = Formula([(c, list(word)) for word, c in total_of(integers, formulas).items()])
            told = self.assert_told(wanted, formulas)
            steps = relations(formulas)
            reduced = [
                list(choice)
                for choice in all_choices(range(-6, 7), repeat=len(formulas))
                if total_of(choice, formulas) == summed(wanted.terms)
                and all(choice[first_place(step)] in range(step[first_place(step)]) for step in steps)
            ]
            if max(map(abs, told)) <= 6:
                self.assertEqual(reduced, [told])
            else:
                self.assertEqual(reduced, [])

    def test_values_add_up(self):
        rows = rows_up_to(3, [-1, 0, 2])
        for formulas in mixed_lists(414, 30, 4, 2, 3, 9):
            wanted = added(scaled(formulas[0], 3), scaled(formulas[-1], -5))
            told = self.assert_told(wanted, formulas)
            for row in rows:
                total = sum(integer * walked_value(each.terms, row) for integer, each in zip(told, formulas))
                self.assertEqual(total, walked_value(wanted.terms, row))

    def test_a_formula_that_is_always_0(self):
        for formulas in EDGES:
            for wanted in (NOTHING, CANCELS):
                self.assertEqual(mixture(wanted, formulas), [0] * len(formulas))

    def test_formulas_that_are_always_0(self):
        self.assertIsNone(mixture(PAIRS, [NOTHING]))
        self.assertIsNone(mixture(PAIRS, [CANCELS, NOTHING]))
        self.assertEqual(mixture(PAIRS, [CANCELS, PAIRS, NOTHING]), [0, 1, 0])

    def test_equal_formulas(self):
        self.assertEqual(mixture(PAIRS, [PAIRS, PAIRS]), [0, 1])
        self.assertEqual(mixture(scaled(PAIRS, -7), [PAIRS, PAIRS, PAIRS]), [0, 0, -7])

    def test_words_that_are_not_there(self):
        self.assertIsNone(mixture(word_formula([4, 0]), [PAIRS, TWO]))
        self.assertIsNone(mixture(word_formula([]), [PAIRS]))
        self.assertIsNone(mixture(PAIRS, [word_formula([])]))
        self.assertIsNone(mixture(Formula([(1, [1, 1]), (1, [])]), [PAIRS, TWO]))

    def test_what_can_be_had_by_fractions_alone(self):
        self.assertIsNone(mixture(PAIRS, [SQUARE, TWO]))
        self.assertEqual(mixture(scaled(PAIRS, 2), [SQUARE, TWO]), [1, -1])
        self.assertIsNone(mixture(word_formula([3]), [Formula([(2, [3])])]))
        self.assertIsNone(mixture(Formula([(5, [])]), [Formula([(6, [])]), Formula([(-4, [])])]))
        self.assertEqual(mixture(Formula([(2, [])]), [Formula([(6, [])]), Formula([(-4, [])])]), [1, 1])

    def test_of_several_ones_the_reduced_one(self):
        numbers = [Formula([(6, [])]), Formula([(10, [])]), Formula([(15, [])])]
        for number in range(-40, 41):
            told = mixture(Formula([(number, [])]), numbers)
            self.assertIn(told[0], range(5))
            self.assertIn(told[1], range(3))
            self.assertEqual(6 * told[0] + 10 * told[1] + 15 * told[2], number)

    def test_the_wanted_formula_among_the_formulas(self):
        for formulas in mixed_lists(415, 40):
            for formula in formulas:
                told = self.assert_told(formula, formulas)
                self.assertIsNotNone(told)

    def test_formulas_written_in_any_way(self):
        crowded = Formula([(3, [2]), (0, [7]), (1, [1, 1]), (-3, [2]), (1, [1, 1]), (1, [2])])
        self.assertEqual(mixture(crowded, [SQUARE]), [1])
        self.assertEqual(mixture(SQUARE, [crowded]), [1])

    def test_great_integers(self):
        wanted = Formula([(10 ** 30, [1]), (-10 ** 30, [2])])
        self.assertEqual(mixture(wanted, [word_formula([1]), TWO]), [10 ** 30, -10 ** 30])


class WithOtherFiles(unittest.TestCase):
    def test_classes_of_alike_formulas(self):
        for formulas in mixed_lists(420, 60):
            told = relations(formulas)
            for members in classes(formulas):
                for place in members[1:]:
                    integers = [0] * len(formulas)
                    integers[members[0]], integers[place] = 1, -1
                    self.assertEqual(echelon(told + [integers]), echelon(told))
                    self.assertEqual(mixture(formulas[place], [formulas[members[0]]]), [
                        0 if are_alike(formulas[place], NOTHING) else 1
                    ])

    def test_alike_exactly_if_their_difference_is_a_relation(self):
        for formulas in mixed_lists(421, 80, 2):
            if len(formulas) == 2:
                one, other = formulas
                zeros = [are_alike(each, NOTHING) for each in formulas]
                if are_alike(one, other):
                    self.assertEqual(relations(formulas), [[1, 0], [0, 1]] if all(zeros) else [[1, -1]])
                else:
                    self.assertNotEqual(relations(formulas)[:1], [[1, -1]])

    def test_relations_as_sides(self):
        chance = random.Random(422)
        for _ in range(25):
            sides = [
                [(chance.randint(-3, 3), [[chance.randint(0, 2)] for _ in range(chance.randint(0, 2))])]
                for _ in range(4)
            ]
            formulas = [side_formula(side) for side in sides]
            for integers in relations(formulas):
                whole = [(integer * c, words) for integer, side in zip(integers, sides) for c, words in side]
                self.assertIsNone(identity_parts(whole, []))
                self.assertEqual(side_formula(whole), NOTHING)
            told = mixture(formulas[0], formulas[1:])
            if told is None:
                for integers in relations(formulas):
                    self.assertNotEqual(integers[0], 1)
            else:
                whole = [(integer * c, words) for integer, side in zip(told, sides[1:]) for c, words in side]
                self.assertIsNone(identity_parts(sides[0], whole))

    def test_a_mixture_is_a_relation_with_the_wanted_one(self):
        for formulas in mixed_lists(423, 80):
            wanted, others = formulas[0], formulas[1:] or [PAIRS]
            told = mixture(wanted, others)
            steps = relations([wanted] + others)
            # There is one exactly if some relation has the wanted formula once.
            self.assertEqual(told is not None, bool(steps) and steps[0][0] == 1)
            if told is not None:
                self.assertEqual(relations(others), [step[1:] for step in steps[1:]])
                self.assertEqual(total_of([-1] + told, [wanted] + others), {})

    def test_parting_formulas(self):
        for formulas in mixed_lists(424, 40):
            told = mixture(formulas[0], formulas[1:] or [PAIRS])
            if told is not None:
                total = NOTHING
                for integer, each in zip(told, formulas[1:] or [PAIRS]):
                    total = added(total, scaled(each, integer))
                self.assertIsNone(parting(total, formulas[0]))
                self.assertEqual(total, plain(formulas[0]))

    def test_keepers_have_no_relations_and_mixtures_are_shares(self):
        for formulas in mixed_lists(425, 40, 4, 2, 3, 9):
            kept = keeper(formulas)
            self.assertEqual(relations(kept), [])
            self.assertEqual([mixture(each, kept) for each in formulas], shares_in(formulas))

    def test_without_formulas(self):
        # The keeper of formulas that are always 0.
        self.assertEqual(relations(keeper([NOTHING])), [])
        self.assertEqual(mixture(NOTHING, keeper([NOTHING])), [])
        self.assertIsNone(mixture(PAIRS, keeper([NOTHING])))

    def test_keepers_of_great_products_within_a_few_seconds(self):
        chance = random.Random(426)
        several = [
            Formula([(chance.randint(-10 ** 6, 10 ** 6), [chance.randint(0, 4) for _ in range(3)]) for _ in range(6)])
            for _ in range(2)
        ]
        whole = product(*several)
        kept = keeper([whole])
        self.assertEqual([mixture(whole, kept)], shares_in([whole]))
        self.assertEqual(len(relations(kept + several)), 2)


class Arguments(unittest.TestCase):
    def test_nothing_that_is_passed_is_changed(self):
        written = [[(2, [1]), (0, []), (-2, [1])], [(3, [1, 2]), (1, [2, 1])], [], [(3, [1, 2]), (1, [2, 1])]]
        formulas = [Formula(terms) for terms in copy.deepcopy(written)]
        wanted = Formula([(6, [1, 2]), (2, [2, 1])])
        passed = list(formulas)
        self.assertEqual(relations(passed), [[1, 0, 0, 0], [0, 1, 0, -1], [0, 0, 1, 0]])
        self.assertEqual(mixture(wanted, passed), [0, 0, 0, 2])
        self.assertEqual([formula.terms for formula in formulas], written)
        self.assertEqual(wanted.terms, [(6, [1, 2]), (2, [2, 1])])
        self.assertEqual(len(passed), len(formulas))
        for one, other in zip(passed, formulas):
            self.assertIs(one, other)

    def test_returned_lists_are_new_at_all_depths(self):
        formulas = [PAIRS, PAIRS, SQUARE, TWO]
        first, second = relations(formulas), relations(formulas)
        self.assertTrue(share_no_list(first, second))
        first[0].append(3)
        first.pop()
        self.assertEqual(relations(formulas), second)
        told = mixture(PAIRS, formulas)
        told.append(1)
        self.assertEqual(mixture(PAIRS, formulas), told[:-1])


if __name__ == "__main__":
    unittest.main()
