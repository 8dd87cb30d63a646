"""Points [6], [7]: keepers, their shares in formulas, and how their values change with a number."""

import copy
import random
import unittest
from fractions import Fraction

from nestsums import keepers
from nestsums.formulas import Formula, word_formula
from nestsums.forms import plain
from nestsums.keepers import keeper, shares_in, step_rules

from reckoning import kin_of, reckoned_keeper, solved, summed
from walks import is_plain, mixed_formula, rows_up_to, share_no_list, walked_value, words_up_to

NOTHING = Formula([])
CANCELS = Formula([(2, [1]), (0, [4, 4]), (-2, [1])])
PAIRS = word_formula([1, 1])
SQUARE = Formula([(2, [1, 1]), (1, [2])])


def terms_of(formulas):
    return [formula.terms for formula in formulas]


def mixed_lists(seed, many, most=4, most_letters=3, greatest=2):
    """Return lists of mixed formulas with great common divisors, cancelling terms, and formulas without terms."""
    chance = random.Random(seed)
    found = []
    for _ in range(many):
        factor = chance.choice([1, 1, 2, 6])
        formulas = []
        for _ in range(chance.randint(1, most)):
            terms = mixed_formula(chance, 4, most_letters, greatest, chance.choice([1, 4, 30])).terms
            formulas.append(Formula([(factor * coefficient, word) for coefficient, word in terms]))
        found.append(formulas)
    return found


EDGES = [
    [NOTHING],
    [CANCELS],
    [NOTHING, CANCELS, Formula([(0, [])])],
    [word_formula([])],
    [Formula([(-6, [])]), Formula([(4, [])])],
    [Formula([(-1, [2])])],
    [PAIRS, PAIRS],
    [PAIRS, SQUARE, Formula([(3, [2]), (6, [1, 1])])],
    [word_formula([0, 0, 0])],
    [Formula([(2, [0]), (3, [])])],
    [NOTHING, word_formula([3, 1]), CANCELS],
]


class Names(unittest.TestCase):
    def test_they_are_defined_in_the_file_that_lists_them(self):
        for each in (keeper, shares_in, step_rules):
            self.assertEqual(each.__module__, "nestsums.keepers")
            self.assertIs(vars(keepers)[each.__name__], each)

    def test_arguments_may_be_passed_by_name(self):
        self.assertEqual(keeper(formulas=[SQUARE]), keeper([SQUARE]))
        self.assertEqual(shares_in(formulas=[SQUARE, PAIRS]), shares_in([SQUARE, PAIRS]))
        self.assertEqual(step_rules(formulas=[SQUARE]), step_rules([SQUARE]))


class WellKnownKeepers(unittest.TestCase):
    def test_that_of_one_word_has_its_beginnings(self):
        for word in words_up_to(3, [0, 1, 4]) + [[4, 0, 3, 1, 2], [0] * 5, [1, 1, 1, 1, 1]]:
            told = keeper([word_formula(word)])
            self.assertEqual(terms_of(told), [[(1, word[:many])] for many in range(len(word), -1, -1)])

    def test_that_of_a_multiple_of_one_word(self):
        told = keeper([Formula([(-6, [2, 1])])])
        self.assertEqual(terms_of(told), [[(6, [2, 1])], [(6, [2])], [(6, [])]])

    def test_those_of_sums_of_powers(self):
        for letters in ([1], [2, 1], [0, 4, 2], [4, 3, 1, 0]):
            told = keeper([word_formula([letter]) for letter in letters])
            wanted = [[(1, [letter])] for letter in sorted(letters, reverse=True)] + [[(1, [])]]
            self.assertEqual(terms_of(told), wanted)

    def test_those_of_squares_of_sums(self):
        for letter in range(1, 5):
            square = Formula([(2, [letter, letter]), (1, [2 * letter])])
            wanted = [[(1, [2 * letter]), (2, [letter, letter])], [(2, [letter])], [(1, [])]]
            self.assertEqual(terms_of(keeper([square])), wanted)

    def test_a_square_and_the_pairs_in_it(self):
        told = keeper([SQUARE, PAIRS])
        self.assertEqual(terms_of(told), [[(1, [1, 1])], [(1, [2])], [(1, [1])], [(1, [])]])

    def test_the_squares_of_all_differences(self):
        spread = Formula([(1, [2, 0]), (-2, [1, 1]), (1, [0, 2])])
        wanted = [
            [(1, [0, 2]), (-2, [1, 1]), (1, [2, 0])],
            [(1, [2])],
            [(2, [1])],
            [(1, [0])],
            [(1, [])],
        ]
        self.assertEqual(terms_of(keeper([spread])), wanted)

    def test_formulas_that_are_always_0(self):
        for formulas in EDGES[:3]:
            self.assertEqual(keeper(formulas), [])

    def test_coefficients_above_are_from_0_to_one_less(self):
        told = keeper([Formula([(1, [1]), (7, [])]), Formula([(5, [])])])
        self.assertEqual(terms_of(told), [[(1, [1])], [(1, [])]])
        for number in range(-11, 12):
            told = keeper([Formula([(5, [1]), (number, [])])])
            self.assertEqual(terms_of(told), [plain(Formula([(number % 5, []), (5, [1])])).terms, [(5, [])]])

    def test_the_greatest_common_divisor_is_kept(self):
        told = keeper([Formula([(4, [3])]), Formula([(6, [3])])])
        self.assertEqual(terms_of(told), [[(2, [3])], [(2, [])]])
        told = keeper([Formula([(4, [3])]), Formula([(6, [2])])])
        self.assertEqual(terms_of(told), [[(4, [3])], [(6, [2])], [(2, [])]])


class KeepersByAllKin(unittest.TestCase):
    def assert_keeper(self, formulas):
        """Check what point [6] says of the keeper of formulas."""
        told = keeper(formulas)
        dicts = [summed(formula.terms) for formula in told]
        greatest = [max(each, key=lambda word: (len(word), word)) for each in dicts]
        for formula in told:
            self.assertIsInstance(formula, Formula)
            self.assertTrue(is_plain(formula))
        keys = [(len(word), word) for word in greatest]
        self.assertEqual(keys, sorted(keys, reverse=True))
        self.assertEqual(len(keys), len(set(keys)))
        for place, word in enumerate(greatest):
            self.assertGreater(dicts[place][word], 0)
            for each in dicts[:place]:
                self.assertIn(each.get(word, 0), range(dicts[place][word]))
        for each in kin_of(formulas):
            for share in solved(dicts, each):
                self.assertEqual(share.denominator, 1)

    def test_mixed_formulas(self):
        for formulas in mixed_lists(210, 150) + EDGES:
            self.assertEqual(terms_of(keeper(formulas)), reckoned_keeper(formulas), terms_of(formulas))

    def test_what_the_document_says(self):
        for formulas in mixed_lists(211, 60) + EDGES:
            self.assert_keeper(formulas)

    def test_formulas_with_long_words(self):
        for formulas in mixed_lists(212, 12, 4, 5, 1) + mixed_lists(213, 12, 4, 5, 4):
            self.assertEqual(terms_of(keeper(formulas)), reckoned_keeper(formulas), terms_of(formulas))

    def test_as_few_formulas_as_can_be(self):
        # As many as there are independent ones among all kin.
        for formulas in mixed_lists(214, 40):
            independent = []
            for each in kin_of(formulas):
                if solved(independent, each) is None:
                    independent.append(each)
            self.assertEqual(len(keeper(formulas)), len(independent))

    def test_greatest_coefficients(self):
        chance = random.Random(215)
        for letters in ([0, 1], [0, 1, 2, 3, 4]):
            formulas = [
                Formula([
                    (chance.randint(-10 ** 6, 10 ** 6), [chance.choice(letters) for _ in range(5)]) for _ in range(6)
                ])
                for _ in range(4)
            ]
            self.assertEqual(terms_of(keeper(formulas)), reckoned_keeper(formulas))

    def test_great_powers_of_primes(self):
        chance = random.Random(216)
        for prime in (2, 3, 6):
            formulas = [
                Formula([
                    (prime ** chance.randint(0, 7), [chance.randint(0, 1) for _ in range(chance.randint(3, 5))])
                    for _ in range(6)
                ])
                for _ in range(4)
            ]
            self.assertEqual(terms_of(keeper(formulas)), reckoned_keeper(formulas))


class Shares(unittest.TestCase):
    def test_they_are_the_only_ones(self):
        for formulas in mixed_lists(220, 60) + EDGES:
            told = shares_in(formulas)
            self.assertEqual(len(told), len(formulas))
            dicts = [summed(formula.terms) for formula in keeper(formulas)]
            for formula, integers in zip(formulas, told):
                self.assertEqual(integers, solved(dicts, summed(formula.terms)))
                self.assertEqual({type(integer) for integer in integers} - {int}, set())

    def test_values_add_up(self):
        for formulas in mixed_lists(221, 20, 4, 5, 4):
            keepers_formulas = keeper(formulas)
            told = shares_in(formulas)
            for row in ([], [3], [2, -1, 0, 5], [1, 1, -2, 3, 4, -1]):
                values = [walked_value(formula.terms, row) for formula in keepers_formulas]
                for formula, integers in zip(formulas, told):
                    total = sum(integer * value for integer, value in zip(integers, values))
                    self.assertEqual(total, walked_value(formula.terms, row))

    def test_of_formulas_that_are_always_0(self):
        self.assertEqual(shares_in([NOTHING]), [[]])
        self.assertEqual(shares_in([CANCELS, NOTHING]), [[], []])
        self.assertEqual(shares_in([CANCELS, word_formula([2])]), [[0, 0], [1, 0]])

    def test_equal_and_alike_formulas(self):
        other = Formula(SQUARE.terms[::-1] + [(0, [3])])
        self.assertEqual(shares_in([SQUARE, SQUARE, other]), [[1, 0, 0]] * 3)

    def test_a_formula_that_is_a_sum_of_others(self):
        whole = Formula([(2, [2, 1]), (-5, [1]), (3, [])])
        told = shares_in([word_formula([2, 1]), whole, word_formula([1])])
        self.assertEqual(told, [[1, 0, 0, 0], [2, 0, -5, 3], [0, 0, 1, 0]])


class StepRules(unittest.TestCase):
    def assert_form(self, rules, many):
        self.assertEqual(len(rules), many)
        for rule in rules:
            letters = [letter for letter, _ in rule]
            self.assertEqual(letters, sorted(set(letters)))
            self.assertEqual(letters[0], 0)
            for letter, integers in rule:
                self.assertEqual(len(integers), many)
                self.assertIsInstance(integers, list)
                if letter > 0:
                    self.assertNotEqual(integers, [0] * many)

    def assert_rules(self, formulas, rows, numbers):
        told = step_rules(formulas)
        kept = terms_of(keeper(formulas))
        self.assert_form(told, len(kept))
        for row in rows:
            values = [walked_value(terms, row) for terms in kept]
            for number in numbers:
                wanted = [walked_value(terms, row + [number]) for terms in kept]
                self.assertEqual(self.stepped(told, values, number), wanted, (terms_of(formulas), row, number))

    def stepped(self, rules, values, number):
        return [
            sum(
                number ** letter * sum(integer * value for integer, value in zip(integers, values))
                for letter, integers in rule
            )
            for rule in rules
        ]

    def test_values_on_a_row_with_one_more_number(self):
        for formulas in mixed_lists(230, 40) + EDGES:
            self.assert_rules(formulas, [[], [2], [0, 3], [1, -2, 4]], [-2, -1, 0, 1, 3])

    def test_long_words_and_great_letters(self):
        for formulas in mixed_lists(231, 10, 4, 5, 4):
            self.assert_rules(formulas, [[], [2, 1, -1], [1, 0, -2, 4, 3]], [-3, 0, 1, 5])

    def test_they_are_the_only_ones(self):
        # The integers behind a letter are told by the derivative by it, and
        # by the formula itself for the letter 0.
        for formulas in mixed_lists(232, 40) + EDGES:
            kept = [summed(formula.terms) for formula in keeper(formulas)]
            for each, rule in zip(kept, step_rules(formulas)):
                wanted = []
                for letter in range(5):
                    derivative = {word[:-1]: number for word, number in each.items() if word and word[-1] == letter}
                    if letter == 0:
                        for word, number in each.items():
                            derivative[word] = derivative.get(word, 0) + number
                    integers = solved(kept, derivative)
                    if letter == 0 or integers != [0] * len(kept):
                        wanted.append((letter, integers))
                self.assertEqual(rule, wanted)

    def test_well_known_ones(self):
        self.assertEqual(step_rules([word_formula([0])]), [[(0, [1, 1])], [(0, [0, 1])]])
        self.assertEqual(step_rules([word_formula([3])]), [[(0, [1, 0]), (3, [0, 1])], [(0, [0, 1])]])
        wanted = [[(0, [1, 0, 0]), (1, [0, 1, 0]), (2, [0, 0, 1])], [(0, [0, 1, 0]), (1, [0, 0, 2])], [(0, [0, 0, 1])]]
        self.assertEqual(step_rules([SQUARE]), wanted)

    def test_the_letter_0_adds_to_the_formula_itself(self):
        told = step_rules([word_formula([1, 0])])
        self.assertEqual(told, [[(0, [1, 1, 0])], [(0, [0, 1, 0]), (1, [0, 0, 1])], [(0, [0, 0, 1])]])

    def test_of_formulas_that_are_always_0(self):
        for formulas in EDGES[:3]:
            self.assertEqual(step_rules(formulas), [])

    def test_of_numbers_alone(self):
        self.assertEqual(step_rules([word_formula([])]), [[(0, [1])]])
        self.assertEqual(step_rules([Formula([(-4, [])])]), [[(0, [1])]])


class Arguments(unittest.TestCase):
    def test_nothing_that_is_passed_is_changed(self):
        written = [[(2, [1]), (0, []), (-2, [1])], [(3, [1, 2]), (1, [2, 1])], [], [(4, [0, 0])]]
        formulas = [Formula(terms) for terms in copy.deepcopy(written)]
        passed = list(formulas)
        for each in (keeper, shares_in, step_rules):
            each(passed)
            self.assertEqual([formula.terms for formula in formulas], written)
            self.assertEqual(len(passed), len(formulas))
            for one, other in zip(passed, formulas):
                self.assertIs(one, other)

    def test_returned_lists_are_new_at_all_depths(self):
        for formulas in ([SQUARE, PAIRS], [SQUARE, SQUARE], [word_formula([0, 0])]):
            for each in (shares_in, step_rules, keeper):
                first, second = each(formulas), each(formulas)
                self.assertEqual(first, second)
                self.assertTrue(share_no_list(first, second))

    def test_what_was_told_may_be_changed(self):
        told = keeper([SQUARE])
        told.pop()
        told[0].terms[0][1].append(9)
        shares = shares_in([SQUARE])
        shares[0].append(5)
        rules = step_rules([SQUARE])
        rules[0][0][1][0] = 7
        rules.reverse()
        self.assertEqual(len(keeper([SQUARE])), 3)
        self.assertEqual(keeper([SQUARE])[0], plain(SQUARE))
        self.assertEqual(shares_in([SQUARE]), [[1, 0, 0]])
        self.assertEqual(step_rules([SQUARE])[0][0], (0, [1, 0, 0]))

    def test_the_list_that_was_passed_may_be_changed(self):
        passed = [PAIRS]
        told = keeper(passed)
        passed.append(SQUARE)
        self.assertEqual(terms_of(told), [[(1, [1, 1])], [(1, [1])], [(1, [])]])


class Walks(unittest.TestCase):
    """The own reckoning itself, on what is told by hand."""

    def test_kin(self):
        told = kin_of([Formula([(2, [1, 3]), (5, [3]), (1, [1])])])
        self.assertEqual(told[0], {(1, 3): 2, (3,): 5, (1,): 1})
        self.assertIn({(): 1}, told)
        self.assertIn({(1,): 2, (): 5}, told)
        self.assertIn({(): 2}, told)
        self.assertEqual(len(told), 4)

    def test_solved(self):
        self.assertEqual(solved([{1: 2}, {1: 1, 2: 4}], {1: 2, 2: 2}), [Fraction(3, 4), Fraction(1, 2)])
        self.assertIsNone(solved([{1: 2}], {2: 1}))
        self.assertEqual(solved([], {}), [])
        self.assertIsNone(solved([], {1: 1}))

    def test_rows_of_small_numbers_tell_keepers_apart(self):
        # Two keepers with the same values on all short rows are one.
        rows = rows_up_to(2, [0, 1, 2])
        for formulas in mixed_lists(240, 20, 2, 2, 2):
            told, wanted = terms_of(keeper(formulas)), reckoned_keeper(formulas)
            for one, other in zip(told, wanted):
                self.assertEqual([walked_value(one, row) for row in rows], [walked_value(other, row) for row in rows])


if __name__ == "__main__":
    unittest.main()
