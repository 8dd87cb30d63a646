"""Points [4], [5], [7]: what the files tell together, each one checked by another one."""

import random
import unittest

from nestsums.far import far_value
from nestsums.formulas import Formula, word_formula
from nestsums.forms import are_alike, classes, length_of, plain
from nestsums.identities import identity_parts, side_formula
from nestsums.joins import (
    added,
    begun,
    cuts,
    ended,
    moved,
    product,
    repeated,
    scaled,
    stretched,
    turned,
)
from nestsums.parting import on_kind, parting, parting_among

from walks import first_unlike, is_blocks, mixed_blocks, mixed_formula, rows_up_to, walked_side, words_up_to

NOTHING = Formula([])
KINDS = {"bits": [0, 1], "signs": [-1, 1]}
VAST = 10 ** 30


def formulas(seed, many, most_letters=3):
    """Return mixed formulas and those at the edges."""
    chance = random.Random(seed)
    mixed = [mixed_formula(chance, 4, most_letters, 4) for _ in range(many)]
    return mixed + [NOTHING, word_formula([]), Formula([(2, [1]), (-2, [1]), (1, [0, 3])])]


class PartingAndValues(unittest.TestCase):
    def test_none_exactly_for_alike_formulas(self):
        for one in formulas(70, 6):
            for other in formulas(71, 6) + [Formula(one.terms[::-1] + [(0, [1])])]:
                told = parting(one, other)
                self.assertEqual(told is None, are_alike(one, other))
                self.assertEqual(told is None, plain(one) == plain(other))
                self.assertEqual(told is None, classes([one, other]) == [[0, 1]])
                if told is not None:
                    self.assertEqual(one.value_on(told[0]) - other.value_on(told[0]), told[1])

    def test_a_formula_and_its_joins_part_where_their_values_do(self):
        joins = [turned, lambda each: moved(each, 1), lambda each: stretched(each, 2), lambda each: repeated(each, 2)]
        rows = rows_up_to(3, [0, 1, 2, 3, 4])
        for one in formulas(72, 8):
            for join in joins:
                other = join(one)
                wanted = first_unlike(one.value_on, other.value_on, rows)
                self.assertEqual(parting(one, other), wanted)

    def test_the_row_has_as_many_numbers_as_the_shortest_word_of_the_difference(self):
        for one in formulas(73, 8):
            for other in formulas(74, 8):
                terms = added(one, scaled(other, -1)).terms
                told = parting(one, other)
                if terms:
                    self.assertEqual(len(told[0]), len(terms[0][1]))
                else:
                    self.assertIsNone(told)


class RowsOfKinds(unittest.TestCase):
    def test_none_exactly_where_the_formulas_on_the_kind_are_equal(self):
        for kind in KINDS:
            for one in formulas(75, 8):
                for other in formulas(76, 8):
                    told = parting_among(one, other, kind)
                    self.assertEqual(told is None, on_kind(one, kind) == on_kind(other, kind))
                    if told is not None:
                        self.assertLessEqual(set(told[0]), set(KINDS[kind]))
                        self.assertEqual(one.value_on(told[0]) - other.value_on(told[0]), told[1])

    def test_alike_formulas_part_on_no_kind(self):
        for one in formulas(77, 8):
            other = Formula(one.terms[::-1] + [(1, [4]), (-1, [4])])
            for kind in KINDS:
                self.assertIsNone(parting_among(one, other, kind))
                self.assertEqual(on_kind(one, kind), on_kind(other, kind))

    def test_first_rows_of_bits_are_those_of_the_formulas_on_bits(self):
        # With letters 0 and 1 alone, the first row has the numbers 0 and 1 alone.
        for one in formulas(78, 8):
            for other in formulas(79, 8):
                self.assertEqual(
                    parting_among(one, other, "bits"), parting(on_kind(one, "bits"), on_kind(other, "bits"))
                )

    def test_the_formula_on_a_kind_has_its_values_and_stays(self):
        for kind, numbers in KINDS.items():
            for one in formulas(80, 8):
                told = on_kind(one, kind)
                self.assertEqual(on_kind(told, kind), told)
                self.assertIsNone(parting_among(one, told, kind))
                self.assertLessEqual(length_of(told), length_of(one))
                for row in rows_up_to(4, numbers):
                    self.assertEqual(told.value_on(row), one.value_on(row))

    def test_joins_within_a_kind(self):
        for kind in KINDS:
            for one in formulas(81, 4, 2):
                for other in formulas(82, 4, 2):
                    for join in (added, product):
                        told = on_kind(join(on_kind(one, kind), on_kind(other, kind)), kind)
                        self.assertEqual(told, on_kind(join(one, other), kind))
                self.assertEqual(on_kind(turned(one), kind), turned(on_kind(one, kind)))
                self.assertEqual(on_kind(repeated(one, VAST), kind), on_kind(repeated(on_kind(one, kind), VAST), kind))

    def test_signs_told_by_bits(self):
        # A bit b stands for the sign 2 b - 1, and rows stay in their sequence.
        def by_bits(formula):
            return stretched(moved(formula, -1), 2)

        for one in formulas(83, 6):
            told = on_kind(by_bits(one), "bits")
            self.assertEqual(told, on_kind(by_bits(on_kind(one, "signs")), "bits"))
            for row in rows_up_to(4, [0, 1]):
                self.assertEqual(told.value_on(row), one.value_on([2 * bit - 1 for bit in row]))
            for other in formulas(84, 6):
                wanted = parting_among(by_bits(one), by_bits(other), "bits")
                if wanted is not None:
                    wanted = ([2 * bit - 1 for bit in wanted[0]], wanted[1])
                self.assertEqual(parting_among(one, other, "signs"), wanted)


class Sides(unittest.TestCase):
    def mixed_side(self, chance):
        side = []
        for _ in range(chance.randint(0, 4)):
            words = [[chance.randint(0, 4) for _ in range(chance.randint(0, 2))] for _ in range(chance.randint(0, 3))]
            side.append((chance.randint(-3, 3), words))
        return side

    def test_products_of_two_words(self):
        for one in words_up_to(2, [0, 1, 3]):
            for other in words_up_to(2, [0, 1, 3]):
                told = side_formula([(1, [one, other])])
                self.assertEqual(told, product(word_formula(one), word_formula(other)))
                self.assertIsNone(identity_parts([(1, [one, other])], [(1, [other, one])]))

    def test_sides_and_their_formulas(self):
        chance = random.Random(90)
        for _ in range(60):
            side, other_side = self.mixed_side(chance), self.mixed_side(chance)
            formula, other_formula = side_formula(side), side_formula(other_side)
            told = identity_parts(side, other_side)
            self.assertEqual(told, parting(formula, other_formula))
            self.assertEqual(told is None, formula == other_formula)
            row = [chance.randint(-5, 5) for _ in range(chance.randint(0, 7))]
            self.assertEqual(formula.value_on(row), walked_side(side, row))
            if told is not None:
                self.assertEqual(walked_side(side, told[0]) - walked_side(other_side, told[0]), told[1])

    def test_a_side_and_its_formula_written_as_a_side(self):
        chance = random.Random(91)
        for _ in range(20):
            side = self.mixed_side(chance)
            written = [(coefficient, [word]) for coefficient, word in side_formula(side).terms]
            self.assertIsNone(identity_parts(side, written))
            self.assertEqual(side_formula(written), side_formula(side))
            self.assertEqual(identity_parts(side, written + [(7, [])]), ([], -7))

    def test_sides_put_together_by_joins(self):
        chance = random.Random(92)
        for _ in range(20):
            words, others = [[[chance.randint(0, 4)] for _ in range(many)] for many in (2, 3)]
            whole = side_formula([(6, words + others)])
            self.assertEqual(whole, product(side_formula([(2, words)]), side_formula([(3, others)])))
            both = side_formula([(2, words), (3, others)])
            self.assertEqual(both, added(side_formula([(2, words)]), side_formula([(3, others)])))

    def test_known_identities_for_all_letters(self):
        for one in range(5):
            for other in range(5):
                wanted = [(1, [[one, other]]), (1, [[other, one]]), (1, [[one + other]])]
                self.assertIsNone(identity_parts([(1, [[one], [other]])], wanted))
                told = identity_parts([(1, [[one], [other]])], wanted[:2])
                self.assertEqual(told, ([0], 1) if one + other == 0 else ([1], 1))


class JoinsByValues(unittest.TestCase):
    def test_sums_and_multiples(self):
        for one in formulas(93, 6):
            for other in formulas(94, 6):
                self.assertEqual(added(one, other), added(other, one))
                self.assertEqual(added(added(one, other), scaled(other, -1)), plain(one))
                self.assertEqual(scaled(added(one, other), 3), added(scaled(one, 3), scaled(other, 3)))
                self.assertEqual(added(one, one), scaled(one, 2))

    def test_products(self):
        for one in formulas(95, 4, 2):
            for other in formulas(96, 4, 2):
                told = product(one, other)
                self.assertEqual(told, product(other, one))
                self.assertEqual(product(scaled(one, -3), other), scaled(told, -3))
                for third in formulas(97, 2, 2):
                    self.assertEqual(product(told, third), product(one, product(other, third)))
                    whole = product(added(one, other), third)
                    self.assertEqual(whole, added(product(one, third), product(other, third)))

    def test_products_go_with_all_that_changes_the_row(self):
        changes = [
            turned,
            lambda each: stretched(each, -2),
            lambda each: moved(each, 3),
            lambda each: begun(each, [2, -1]),
            lambda each: ended(each, [1, 0, 3]),
            lambda each: repeated(each, 3),
            lambda each: repeated(each, VAST),
        ]
        for change in changes:
            for one in formulas(98, 3, 2):
                for other in formulas(99, 3, 2):
                    self.assertEqual(change(product(one, other)), product(change(one), change(other)))
                    self.assertEqual(change(added(one, other)), added(change(one), change(other)))

    def test_one_change_behind_another(self):
        for one in formulas(100, 12):
            self.assertEqual(turned(turned(one)), plain(one))
            self.assertEqual(stretched(stretched(one, 3), -2), stretched(one, -6))
            self.assertEqual(moved(moved(one, 5), -7), moved(one, -2))
            self.assertEqual(moved(stretched(one, 2), 3), stretched(moved(one, 6), 2))
            self.assertEqual(turned(moved(one, 2)), moved(turned(one), 2))
            self.assertEqual(begun(begun(one, [1, 2]), [3]), begun(one, [1, 2, 3]))
            self.assertEqual(ended(ended(one, [2, 3]), [1]), ended(one, [1, 2, 3]))
            self.assertEqual(begun(ended(one, [4, 1]), [3]), ended(begun(one, [3]), [4, 1]))
            self.assertEqual(turned(begun(one, [1, 2])), ended(turned(one), [2, 1]))
            self.assertEqual(moved(begun(one, [1, 2]), 3), begun(moved(one, 3), [-2, -1]))
            self.assertEqual(repeated(repeated(one, 3), 4), repeated(one, 12))
            self.assertEqual(repeated(turned(one), 5), turned(repeated(one, 5)))
            self.assertEqual(repeated(moved(one, -1), 3), moved(repeated(one, 3), -1))

    def test_values_on_what_is_told_behind_a_row(self):
        rows = [[], [2], [0, -1], [3, 1, -2]]
        for one in formulas(101, 8):
            for row in rows:
                for behind in rows:
                    value = one.value_on(row + behind)
                    self.assertEqual(begun(one, row).value_on(behind), value)
                    self.assertEqual(ended(one, behind).value_on(row), value)
                    self.assertEqual(begun(ended(one, behind), row).value_on([]), value)

    def test_cuts_tell_begun_and_ended(self):
        row = [2, -1, 3]
        for one in formulas(102, 10):
            told = cuts(one)
            behind = Formula([(c * word_formula(word).value_on(row), other) for c, word, other in told])
            ahead = Formula([(c * word_formula(other).value_on(row), word) for c, word, other in told])
            self.assertEqual(plain(behind), begun(one, row))
            self.assertEqual(plain(ahead), ended(one, row))

    def test_cuts_tell_formulas(self):
        for one in formulas(103, 10):
            told = cuts(one)
            self.assertEqual([(c, other) for c, word, other in told if not word], plain(one).terms)
            self.assertEqual([(c, word) for c, word, other in told if not other], plain(one).terms)
            twice = Formula([])
            for coefficient, word, other in told:
                both = product(word_formula(word), word_formula(other))
                twice = added(twice, scaled(both, coefficient))
            self.assertEqual(twice, repeated(one, 2))

    def test_turned_cuts(self):
        for one in formulas(104, 10):
            changed = [(c, other[::-1], word[::-1]) for c, word, other in cuts(turned(one))]
            self.assertEqual(sorted(changed), sorted(cuts(one)))


class FarRows(unittest.TestCase):
    def mixed(self, seed):
        """Return mixed blocks, up to three deep, with great numbers of times."""
        chance = random.Random(seed)
        times = [0, 1, 2, 7, 10 ** 9, VAST]
        return [mixed_blocks(chance, depth, 3, times, [-2, -1, 0, 1, 3]) for depth in (1, 2, 3, 3)]

    def test_one_block_once_is_a_row(self):
        for one in formulas(110, 8):
            for row in ([], [0], [3, -1], [2, 0, 1, -2, 3]):
                self.assertEqual(far_value(one, [(row, 1)]), one.value_on(row))
                self.assertEqual(far_value(one, [([number], 1) for number in row]), one.value_on(row))

    def test_blocks_within_one_block_once(self):
        for one in formulas(111, 6):
            for blocks in self.mixed(112)[:2]:
                self.assertEqual(far_value(one, [(blocks, 1)]), far_value(one, blocks))
                self.assertEqual(far_value(one, [(blocks, 6)]), far_value(one, blocks * 6))

    def test_times_within_times(self):
        for one in formulas(113, 6):
            for row in ([2], [1, -1, 3]):
                wanted = far_value(one, [(row, 6 * VAST)])
                self.assertEqual(far_value(one, [([(row, 2)], 3 * VAST)]), wanted)
                self.assertEqual(far_value(one, [([([(row, VAST)], 3)], 2)]), wanted)
                self.assertEqual(far_value(one, [(row, VAST), (row, 0), (row, 5 * VAST)]), wanted)

    def test_repeated_formulas(self):
        for one in formulas(114, 6):
            for many in (0, 1, 2, 9, VAST):
                for row in ([], [2], [1, -1, 3]):
                    self.assertEqual(repeated(one, many).value_on(row), far_value(one, [(row, many)]))
                for blocks in self.mixed(115)[:2]:
                    self.assertEqual(far_value(repeated(one, many), blocks), far_value(one, [(blocks, many)]))

    def test_begun_and_ended_formulas(self):
        for one in formulas(116, 6):
            for blocks in self.mixed(117):
                self.assertEqual(far_value(begun(one, [2, 3]), blocks), far_value(one, [([2, 3], 1)] + blocks))
                self.assertEqual(far_value(ended(one, [2, 3]), blocks), far_value(one, blocks + [([2, 3], 1)]))

    def test_cuts_tell_blocks_put_together(self):
        for one in formulas(118, 6):
            ahead, behind = self.mixed(119)[1:3]
            wanted = sum(
                c * far_value(word_formula(word), ahead) * far_value(word_formula(other), behind)
                for c, word, other in cuts(one)
            )
            self.assertEqual(far_value(one, ahead + behind), wanted)

    def test_sums_and_products(self):
        for one in formulas(120, 4):
            for other in formulas(121, 4):
                for blocks in self.mixed(122):
                    value, other_value = far_value(one, blocks), far_value(other, blocks)
                    self.assertEqual(far_value(added(one, other), blocks), value + other_value)
                    self.assertEqual(far_value(product(one, other), blocks), value * other_value)

    def test_rows_that_are_changed(self):
        for one in formulas(123, 6):
            for blocks in self.mixed(124):
                self.assertEqual(far_value(turned(one), blocks), far_value(one, backwards(blocks)))
                for step in (-1, VAST):
                    moved_blocks = changed(blocks, lambda part: [number + step for number in part])
                    self.assertEqual(far_value(moved(one, step), blocks), far_value(one, moved_blocks))
                for factor in (-2, 0):
                    stretched_blocks = changed(blocks, lambda part: [number * factor for number in part])
                    self.assertEqual(far_value(stretched(one, factor), blocks), far_value(one, stretched_blocks))

    def test_alike_formulas_and_formulas_on_kinds(self):
        for one in formulas(125, 6):
            for blocks in self.mixed(126):
                self.assertEqual(far_value(plain(one), blocks), far_value(one, blocks))
                signs = changed(blocks, lambda part: [1 if number > 0 else -1 for number in part])
                self.assertEqual(far_value(on_kind(one, "signs"), signs), far_value(one, signs))
                bits = changed(blocks, lambda part: [1 if number > 0 else 0 for number in part])
                self.assertEqual(far_value(on_kind(one, "bits"), bits), far_value(one, bits))

    def test_sides_on_far_rows(self):
        side = [(2, [[1], [2, 0]]), (-3, [[0], [1], [1]]), (5, [])]
        for blocks in self.mixed(127):
            wanted = 0
            for coefficient, words in side:
                for word in words:
                    coefficient *= far_value(word_formula(word), blocks)
                wanted += coefficient
            self.assertEqual(far_value(side_formula(side), blocks), wanted)


def changed(blocks, change):
    """Return blocks with a change of all their rows."""
    return [(changed(part, change) if is_blocks(part) else change(part), times) for part, times in blocks]


def backwards(blocks):
    """Return the blocks of the row the other way about."""
    return [(backwards(part) if is_blocks(part) else part[::-1], times) for part, times in blocks[::-1]]


if __name__ == "__main__":
    unittest.main()
