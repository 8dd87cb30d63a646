"""Points [2], [4] to [7]: keepers, orders and polynomials with far rows, cuts, joins, sides and one another."""

import random
import unittest
from fractions import Fraction
from itertools import permutations

from nestsums.far import far_value
from nestsums.formulas import Formula, word_formula
from nestsums.forms import are_alike, classes, plain
from nestsums.fundamentals import falling, in_fundamental, is_fundamental
from nestsums.identities import identity_parts, side_formula
from nestsums.joins import (
    added,
    begun,
    cuts,
    ended,
    moved,
    product,
    repeated,
    scaled,
    stretched,
    turned,
)
from nestsums.keepers import Keeper, ShortKeeper, keeper, parting_behind, shares_in, step_rules
from nestsums.orders import in_power_sums, is_orderless, sees_zeros
from nestsums.parting import on_kind, parting

from walks import mixed_blocks, mixed_formula, orderless_formula, rows_up_to, words_up_to, written_out

NOTHING = Formula([])
VAST = 10 ** 30
ROWS = [[], [0], [2], [1, 3], [3, 1], [0, -1, 2], [2, 2, 0, 1]]


def formulas(seed, many, most_letters=3, greatest=3):
    """Return mixed formulas and those at the edges."""
    chance = random.Random(seed)
    mixed = [mixed_formula(chance, 4, most_letters, greatest) for _ in range(many)]
    return mixed + [NOTHING, Formula([(-4, [])]), Formula([(2, [1]), (-2, [1]), (6, [0, 3])])]


def lists_of(seed, many):
    """Return lists of one to four such formulas."""
    chance = random.Random(seed)
    pool = formulas(seed, 12)
    return [[chance.choice(pool) for _ in range(chance.randint(1, 4))] for _ in range(many)]


def terms_of(several):
    return [formula.terms for formula in several]


def weighed(integers, values):
    return sum(integer * value for integer, value in zip(integers, values))


def times(one, other):
    """Return the product of two polynomials, as dicts of fractions by lists of words, told as tuples."""
    result = {}
    for words, share in one.items():
        for other_words, other_share in other.items():
            together = tuple(sorted(words + other_words, key=lambda word: (len(word), word)))
            result[together] = result.get(together, 0) + share * other_share
    return {words: share for words, share in result.items() if share != 0}


def plus(one, other):
    """Return the sum of two such polynomials."""
    result = dict(one)
    for words, share in other.items():
        result[words] = result.get(words, 0) + share
    return {words: share for words, share in result.items() if share != 0}


def as_polynomial(told):
    """Return what in_fundamental told as such a polynomial."""
    return {tuple(map(tuple, words)): Fraction(top, bottom) for top, bottom, words in told}


def with_words(told):
    """Return what in_power_sums told with words of one letter in the place of letters."""
    return [(top, bottom, [[letter] for letter in letters]) for top, bottom, letters in told]


class KeepersOnRows(unittest.TestCase):
    def test_numbers_and_told_are_the_values_of_formulas(self):
        for several in lists_of(300, 12):
            for row in ROWS:
                kept = Keeper(several)
                kept.take_row(row)
                self.assertEqual(kept.numbers, [each.value_on(row) for each in keeper(several)])
                self.assertEqual(kept.told, [each.value_on(row) for each in several])

    def test_shares_tell_what_is_told_by_the_numbers(self):
        for several in lists_of(301, 12):
            kept = ShortKeeper(several, 40)
            kept.take_row([3, -1])
            kept.take(2)
            self.assertEqual(kept.told, [weighed(integers, kept.numbers) for integers in shares_in(several)])

    def test_rules_tell_the_numbers_behind_a_number(self):
        for several in lists_of(302, 12):
            kept = Keeper(several)
            kept.take_row([1, 0, -2])
            for number in (0, 4, -3):
                before = kept.numbers
                kept.take(number)
                wanted = [
                    sum(number ** letter * weighed(integers, before) for letter, integers in rule)
                    for rule in step_rules(several)
                ]
                self.assertEqual(kept.numbers, wanted)

    def test_shares_tell_the_formulas(self):
        for several in lists_of(303, 20):
            kept = keeper(several)
            for formula, integers in zip(several, shares_in(several)):
                total = NOTHING
                for integer, each in zip(integers, kept):
                    total = added(total, scaled(each, integer))
                self.assertEqual(total, plain(formula))

    def test_rules_tell_ended_formulas(self):
        for several in lists_of(304, 12):
            kept = keeper(several)
            for each, rule in zip(kept, step_rules(several)):
                for number in (0, 1, -2, 5):
                    total = NOTHING
                    for letter, integers in rule:
                        for integer, other in zip(integers, kept):
                            total = added(total, scaled(other, number ** letter * integer))
                    self.assertEqual(total, ended(each, [number]))


class KeepersAndFarRows(unittest.TestCase):
    def test_blocks_that_can_be_written_out(self):
        chance = random.Random(305)
        for several in lists_of(306, 10):
            blocks = mixed_blocks(chance, 3, 2, [0, 1, 2], [-2, 0, 1, 3])
            kept = Keeper(several)
            kept.take_row(written_out(blocks))
            self.assertEqual(kept.told, [far_value(each, blocks) for each in several])
            self.assertEqual(kept.numbers, [far_value(each, blocks) for each in keeper(several)])

    def test_shares_tell_far_values(self):
        chance = random.Random(307)
        for several in lists_of(308, 10):
            blocks = mixed_blocks(chance, 3, 3, [1, 7, VAST], [-2, 0, 1, 3])
            values = [far_value(each, blocks) for each in keeper(several)]
            told = [weighed(integers, values) for integers in shares_in(several)]
            self.assertEqual(told, [far_value(each, blocks) for each in several])

    def test_a_number_behind_a_far_row(self):
        blocks = [([([2, -1], 5), ([3], VAST)], VAST), ([1, 0, 1], 3)]
        for several in lists_of(309, 10):
            values = [far_value(each, blocks) for each in keeper(several)]
            wanted = [far_value(each, blocks + [([-4], 1)]) for each in keeper(several)]
            told = [
                sum((-4) ** letter * weighed(integers, values) for letter, integers in rule)
                for rule in step_rules(several)
            ]
            self.assertEqual(told, wanted)

    def test_a_row_taken_again_and_again(self):
        row = [2, -1, 3]
        for several in lists_of(310, 8):
            kept = Keeper(several)
            for many in range(5):
                self.assertEqual(kept.told, [far_value(each, [(row, many)]) for each in several])
                self.assertEqual(kept.told, [repeated(each, many).value_on(row) for each in several])
                kept.take_row(row)


class KeepersAndCuts(unittest.TestCase):
    def behind(self, formula):
        """Return the formulas, by the other words of cuts, for the row ahead."""
        found = {}
        for coefficient, word, other in cuts(formula):
            found.setdefault(tuple(other), []).append((coefficient, word))
        return {other: Formula(terms) for other, terms in found.items()}

    def test_the_formulas_ahead_are_the_kin(self):
        for formula in formulas(311, 20):
            kin = list(self.behind(formula).values())
            self.assertEqual(keeper([formula]), keeper(kin) if kin else [])
            self.assertEqual(keeper([formula] + kin[:3]), keeper([formula]))

    def test_the_value_on_two_rows_by_numbers_kept_on_the_first_one(self):
        for formula in formulas(312, 12):
            by_other = self.behind(formula)
            if not by_other:
                continue
            kept = Keeper(list(by_other.values()))
            for row in ROWS:
                kept.take_row(row)
                for behind in ROWS:
                    told = weighed(kept.told, [word_formula(list(other)).value_on(behind) for other in by_other])
                    self.assertEqual(told, formula.value_on(row + behind))
                kept.undo()

    def test_ended_formulas_are_sums_of_kin(self):
        for formula in formulas(313, 12):
            for row in ROWS:
                self.assertEqual(keeper([formula, ended(formula, row)]), keeper([formula]))

    def test_ended_formulas_tell_values_further_on(self):
        for formula in formulas(314, 12):
            kept = Keeper([formula] + [ended(formula, row) for row in ROWS[2:5]])
            kept.take_row([1, -1, 2])
            self.assertEqual(kept.told[1:], [formula.value_on([1, -1, 2] + row) for row in ROWS[2:5]])

    def test_begun_formulas_go_on_from_a_row(self):
        for formula in formulas(315, 12):
            for row in ROWS:
                kept, begun_kept = Keeper([formula]), Keeper([begun(formula, row)])
                kept.take_row(row)
                for number in (2, 0, -1):
                    self.assertEqual(begun_kept.told, kept.told)
                    kept.take(number)
                    begun_kept.take(number)
                self.assertEqual(begun_kept.told, kept.told)


class KeepersAndChangedRows(unittest.TestCase):
    def assert_changed(self, several, change, change_of_row):
        changed = Keeper([change(each) for each in several])
        kept = Keeper(several)
        for row in ROWS:
            changed.take_row(row)
            kept.take_row(change_of_row(row))
            self.assertEqual(changed.told, kept.told)
            changed.undo()
            kept.undo()

    def test_moved_stretched_and_turned(self):
        for several in lists_of(316, 8):
            for step in (-1, 3, VAST):
                self.assert_changed(
                    several, lambda each: moved(each, step), lambda row: [number + step for number in row]
                )
            for factor in (-2, 0, 5):
                self.assert_changed(
                    several, lambda each: stretched(each, factor), lambda row: [number * factor for number in row]
                )
            self.assert_changed(several, turned, lambda row: row[::-1])
            self.assert_changed(several, lambda each: repeated(each, 3), lambda row: row * 3)

    def test_bits_and_signs(self):
        for several in lists_of(317, 8):
            for kind, numbers in (("bits", [0, 1]), ("signs", [-1, 1])):
                one, other = Keeper(several), Keeper([on_kind(each, kind) for each in several])
                for row in rows_up_to(3, numbers):
                    one.take_row(row)
                    other.take_row(row)
                    self.assertEqual(one.told, other.told)
                    one.undo()
                    other.undo()

    def test_moved_keepers_have_as_many_formulas(self):
        for several in lists_of(318, 12):
            for step in (1, -4):
                self.assertEqual(len(keeper([moved(each, step) for each in several])), len(keeper(several)))

    def test_sums_and_products(self):
        for one in formulas(319, 4, 2):
            for other in formulas(320, 4, 2):
                kept = Keeper([one, other, added(one, other), product(one, other)])
                kept.take_row([2, -1])
                kept.take_row([3, 0])
                first, second, total, both = kept.told
                self.assertEqual([total, both], [first + second, first * second])
                self.assertEqual(keeper([one, other, added(one, scaled(other, -5))]), keeper([one, other]))

    def test_keepers_of_great_products_within_a_few_seconds(self):
        chance = random.Random(321)
        several = [
            Formula([(chance.randint(-10 ** 6, 10 ** 6), [chance.randint(0, 4) for _ in range(3)]) for _ in range(6)])
            for _ in range(2)
        ]
        whole = product(*several)
        kept = Keeper([whole])
        row = [chance.randint(-10 ** 6, 10 ** 6) for _ in range(40)]
        kept.take_row(row)
        self.assertEqual(kept.told, [several[0].value_on(row) * several[1].value_on(row)])
        self.assertEqual(len(kept.numbers), len(keeper([whole])))


class BeginningsTakenForOneAnother(unittest.TestCase):
    def test_exactly_those_with_the_same_numbers(self):
        found = []
        others = [word_formula([1, 1]), word_formula([0, 1]), Formula([(2, [1, 1]), (1, [2])])]
        for formula in formulas(322, 12) + others:
            kept = Keeper([formula])
            numbers = []
            for row in ROWS:
                kept.take_row(row)
                numbers.append(kept.numbers)
                kept.undo()
            for row, values in zip(ROWS, numbers):
                for other_row, other_values in zip(ROWS, numbers):
                    told = parting_behind(formula, row, other_row)
                    self.assertEqual(told is None, values == other_values)
                    found.append((told is None, row == other_row))
        self.assertIn((True, False), found)

    def test_as_begun_formulas_part(self):
        for formula in formulas(323, 12):
            for row in ROWS:
                for other_row in ROWS:
                    one, other = begun(formula, row), begun(formula, other_row)
                    told = parting_behind(formula, row, other_row)
                    self.assertEqual(told, parting(one, other))
                    self.assertEqual(told is None, are_alike(one, other))
                    self.assertEqual(told is None, classes([one, other]) == [[0, 1]])

    def test_the_difference_is_that_of_the_values(self):
        for formula in formulas(324, 12):
            for row in ROWS:
                for other_row in ROWS:
                    told = parting_behind(formula, row, other_row)
                    if told is not None:
                        further, difference = told
                        values = [formula.value_on(each + further) for each in (row, other_row)]
                        self.assertEqual(values[0] - values[1], difference)

    def test_they_stay_so_behind_any_row(self):
        pairs = word_formula([1, 1])
        one, other = Keeper([pairs]), Keeper([pairs])
        one.take_row([1, 3])
        other.take_row([3, 0, 1])
        self.assertIsNone(parting_behind(pairs, [1, 3], [3, 0, 1]))
        for number in (2, -5, 0, 10 ** 6):
            self.assertEqual([one.numbers, one.told], [other.numbers, other.told])
            one.take(number)
            other.take(number)
        self.assertEqual([one.numbers, one.told], [other.numbers, other.told])

    def test_on_far_rows(self):
        for formula in formulas(325, 8):
            if parting_behind(formula, [1, 3], [3, 1]) is None:
                for blocks in ([([2, -1], VAST)], [([([1], VAST)], 7), ([0], 2)]):
                    ahead = [far_value(formula, [(row, 1)] + blocks) for row in ([1, 3], [3, 1])]
                    self.assertEqual(ahead[0], ahead[1])

    def test_rows_in_another_sequence_for_formulas_without_an_order(self):
        chance = random.Random(326)
        for _ in range(10):
            formula = orderless_formula(chance, 2, 3, 3)
            for row in permutations([2, -1, 3]):
                self.assertIsNone(parting_behind(formula, [2, -1, 3], list(row)))
            zero = parting_behind(formula, [2, -1, 3], [2, 0, -1, 3])
            if not sees_zeros(formula):
                self.assertIsNone(zero)


class OrdersOfJoinedFormulas(unittest.TestCase):
    def orderless(self, seed, many, most_letters=2):
        chance = random.Random(seed)
        return [orderless_formula(chance, 2, most_letters, 3) for _ in range(many)] + [NOTHING, word_formula([])]

    def test_what_is_made_of_formulas_without_an_order_has_none(self):
        for one in self.orderless(330, 5):
            for other in self.orderless(331, 5):
                self.assertTrue(is_orderless(added(one, other)))
                self.assertTrue(is_orderless(product(one, other)))
            for changed in (
                scaled(one, -3), turned(one), stretched(one, 2), moved(one, 5), begun(one, [2, 1]), ended(one, [1, 3]),
                repeated(one, VAST), on_kind(one, "bits"), on_kind(one, "signs"),
            ):
                self.assertTrue(is_orderless(changed))
            for each in keeper([one]):
                self.assertTrue(is_orderless(each))

    def test_changes_that_can_be_taken_back_keep_an_order(self):
        for one in formulas(332, 25):
            wanted = is_orderless(one)
            self.assertIs(is_orderless(turned(one)), wanted)
            self.assertIs(is_orderless(moved(one, 2)), wanted)
            self.assertIs(is_orderless(stretched(one, -3)), wanted)
            self.assertIs(is_orderless(added(one, word_formula([1, 1]))), wanted)
            if wanted:
                self.assertTrue(are_alike(one, turned(one)))
                self.assertEqual(begun(one, [3, 1]), ended(one, [1, 3]))
                self.assertEqual(begun(one, [3, 1]), begun(one, [1, 3]))

    def test_a_formula_and_its_turned_one_together(self):
        for letters in ([1, 2], [0, 4], [3, 1]):
            one = word_formula(letters)
            self.assertFalse(is_orderless(one))
            self.assertTrue(is_orderless(added(one, turned(one))))
            self.assertFalse(is_orderless(added(one, scaled(turned(one), -1))))

    def test_a_formula_without_an_order_is_told_by_a_keeper_of_any_sequence(self):
        for one in self.orderless(333, 6, 3):
            told = set()
            for row in permutations([2, -1, 3]):
                kept = Keeper([one])
                kept.take_row(list(row))
                told.add(tuple(kept.told))
            self.assertEqual(len(told), 1)

    def test_zeros(self):
        for one in formulas(334, 25):
            sees = sees_zeros(one)
            ways = [begun(one, [0]), ended(one, [0])]
            if not sees:
                self.assertEqual(ways, [plain(one), plain(one)])
                self.assertEqual(far_value(one, [([1], 3), ([0], VAST), ([2, 0], 5)]), one.value_on([1] * 3 + [2] * 5))
            self.assertIs(sees_zeros(turned(one)), sees)
            self.assertIs(sees_zeros(stretched(one, 7)), sees)
            self.assertIs(sees_zeros(scaled(one, -2)), sees)
            self.assertIs(sees_zeros(plain(one)), sees)
            self.assertFalse(sees_zeros(scaled(one, 0)))

    def test_products_of_what_does_not_see_zeros(self):
        pool = [one for one in formulas(335, 30, 2) if not sees_zeros(one)]
        for one in pool:
            for other in pool:
                self.assertFalse(sees_zeros(product(one, other)))
                self.assertFalse(sees_zeros(added(one, other)))


class PowerSumsTogether(unittest.TestCase):
    def orderless(self, seed, many):
        chance = random.Random(seed)
        return [orderless_formula(chance, 2, 2, 3) for _ in range(many)] + [NOTHING, word_formula([])]

    def polynomial(self, formula):
        return as_polynomial(with_words(in_power_sums(formula)))

    def test_sums_and_products(self):
        for one in self.orderless(340, 5):
            for other in self.orderless(341, 5):
                first, second = self.polynomial(one), self.polynomial(other)
                self.assertEqual(self.polynomial(added(one, other)), plus(first, second))
                self.assertEqual(self.polynomial(product(one, other)), times(first, second))

    def test_alike_formulas(self):
        for one in self.orderless(342, 12):
            told = in_power_sums(one)
            self.assertEqual(in_power_sums(plain(one)), told)
            self.assertEqual(in_power_sums(turned(one)), told)
            self.assertEqual(in_power_sums(Formula(one.terms[::-1] + [(0, [1, 2])])), told)

    def test_sides(self):
        # Times a common bottom, what is told is a side of products of words of one letter.
        for one in self.orderless(343, 10):
            told = in_power_sums(one)
            bottom = 24
            side = [(top * (bottom // below), [[letter] for letter in letters]) for top, below, letters in told]
            self.assertEqual(side_formula(side), scaled(one, bottom))
            self.assertIsNone(identity_parts(side, [(bottom * c, [word]) for c, word in one.terms]))

    def test_sides_without_an_order(self):
        chance = random.Random(344)
        for _ in range(15):
            side = [
                (chance.randint(-5, 5), [[chance.randint(0, 4)] for _ in range(chance.randint(0, 4))]) for _ in range(4)
            ]
            formula = side_formula(side)
            self.assertTrue(is_orderless(formula))
            wanted = {}
            for coefficient, words in side:
                key = tuple(sorted(map(tuple, words)))
                wanted = plus(wanted, {key: Fraction(coefficient)})
            self.assertEqual(self.polynomial(formula), {key: share for key, share in wanted.items() if share})

    def test_far_values(self):
        for one in self.orderless(345, 8):
            for blocks in ([([2, -1], VAST)], [([([1, 3], 5)], VAST), ([0], 9)], []):
                total = Fraction(0)
                for top, bottom, letters in in_power_sums(one):
                    share = Fraction(top, bottom)
                    for letter in letters:
                        share *= far_value(word_formula([letter]), blocks)
                    total += share
                self.assertEqual(total, far_value(one, blocks))

    def test_repeated_rows_make_multiples_of_sums_of_powers(self):
        for one in self.orderless(346, 8):
            told = in_power_sums(repeated(one, 6))
            wanted = {words: share * 6 ** len(words) for words, share in self.polynomial(one).items()}
            self.assertEqual(as_polynomial(with_words(told)), wanted)

    def test_keepers_of_sums_of_powers_tell_it(self):
        for one in self.orderless(347, 8):
            told = in_power_sums(one)
            letters = sorted({letter for _, _, each in told for letter in each}) or [1]
            kept, whole = Keeper([word_formula([letter]) for letter in letters]), Keeper([one])
            for row in ([], [2, -1], [3, 0, 0, 1]):
                kept.take_row(row)
                whole.take_row(row)
                sums = dict(zip(letters, kept.told))
                total = Fraction(0)
                for top, bottom, each in told:
                    share = Fraction(top, bottom)
                    for letter in each:
                        share *= sums[letter]
                    total += share
                self.assertEqual([total], whole.told)

    def test_none_for_formulas_with_an_order(self):
        for one in formulas(348, 20):
            self.assertEqual(in_power_sums(one) is None, not is_orderless(one))


class FundamentalWordsTogether(unittest.TestCase):
    def test_sums_and_products(self):
        for one in formulas(350, 5, 2):
            for other in formulas(351, 5, 2):
                first, second = as_polynomial(in_fundamental(one)), as_polynomial(in_fundamental(other))
                self.assertEqual(as_polynomial(in_fundamental(added(one, other))), plus(first, second))
                self.assertEqual(as_polynomial(in_fundamental(product(one, other))), times(first, second))

    def test_multiples_and_alike_formulas(self):
        for one in formulas(352, 12):
            told = in_fundamental(one)
            self.assertEqual(in_fundamental(plain(one)), told)
            self.assertEqual(in_fundamental(Formula(one.terms[::-1] + [(0, [2, 1])])), told)
            wanted = {words: -6 * share for words, share in as_polynomial(told).items()}
            self.assertEqual(as_polynomial(in_fundamental(scaled(one, -6))), wanted)

    def test_far_values(self):
        for one in formulas(353, 8):
            for blocks in ([([2, -1], VAST)], [([([1, 3], 5)], VAST), ([0], 9)], []):
                total = Fraction(0)
                for top, bottom, words in in_fundamental(one):
                    share = Fraction(top, bottom)
                    for word in words:
                        share *= far_value(word_formula(word), blocks)
                    total += share
                self.assertEqual(total, far_value(one, blocks))

    def test_a_formula_without_an_order_is_told_as_by_sums_of_powers(self):
        chance = random.Random(354)
        for _ in range(30):
            one = orderless_formula(chance, 3, 4, 2)
            self.assertEqual(in_fundamental(one), with_words(in_power_sums(one)))

    def test_orderless_exactly_if_all_words_have_one_letter(self):
        for one in formulas(355, 40, 2):
            alone = all(len(word) == 1 for _, _, words in in_fundamental(one) for word in words)
            self.assertEqual(alone, is_orderless(one))

    def test_products_of_the_falling_words(self):
        # Of the words of this product the word itself is the greatest one.
        for word in words_up_to(4, [0, 1, 2]):
            words = falling(word)
            whole = side_formula([(1, words)])
            self.assertEqual(whole.terms[-1][1], word)
            ascending = sorted(words, key=lambda each: (len(each), each))
            self.assertEqual(in_fundamental(whole), [(1, 1, ascending)])
            self.assertEqual(is_fundamental(word), len(words) == 1)


if __name__ == "__main__":
    unittest.main()
