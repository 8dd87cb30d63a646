"""Points [3], [7]: keepers of rows that grow, without and with a limit."""

import copy
import random
import unittest

from nestsums import keepers
from nestsums.errors import InvalidNumber, NothingToUndo, TooLong
from nestsums.formulas import Formula, word_formula
from nestsums.keepers import Keeper, ShortKeeper, keeper

from walks import mixed_formula, walked_value

NOTHING = Formula([])
PAIRS = word_formula([1, 1])
SQUARE = Formula([(2, [1, 1]), (1, [2])])
SPREAD = Formula([(1, [2, 0]), (-2, [1, 1]), (1, [0, 2])])
LISTS = [
    [PAIRS],
    [SQUARE, PAIRS],
    [NOTHING],
    [Formula([(3, [2]), (-3, [2])]), word_formula([])],
    [SPREAD, SPREAD, word_formula([4, 0, 3, 1, 2])],
    [word_formula([0]), word_formula([1]), word_formula([2]), Formula([(-4, [3]), (6, [])])],
]


class Growing(unittest.TestCase):
    """What the tests of keepers with and without a limit share."""

    def assert_on(self, kept, formulas, row):
        """Check what a keeper of the formulas shows on a row."""
        self.assertEqual(kept.numbers, [walked_value(each.terms, row) for each in keeper(formulas)])
        self.assertEqual(kept.told, [walked_value(each.terms, row) for each in formulas])
        self.assertEqual(len(kept), len(row))

    def assert_raised(self, error, value, call, *arguments):
        with self.assertRaises(error) as caught:
            call(*arguments)
        self.assertIs(type(caught.exception), error)
        self.assertEqual(caught.exception.value, value)


class Names(unittest.TestCase):
    def test_they_are_defined_in_the_file_that_lists_them(self):
        for each in (Keeper, ShortKeeper):
            self.assertEqual(each.__module__, "nestsums.keepers")
            self.assertIs(vars(keepers)[each.__name__], each)

    def test_what_is_listed_stands_in_the_classes_themselves(self):
        for name in ("numbers", "told"):
            self.assertIsInstance(vars(Keeper)[name], property)
        for name in ("take", "take_row", "undo", "__len__", "__eq__", "__init__"):
            self.assertTrue(callable(vars(Keeper)[name]), name)
        for name in ("take", "take_row", "__init__"):
            self.assertTrue(callable(vars(ShortKeeper)[name]), name)
        self.assertTrue(issubclass(ShortKeeper, Keeper))

    def test_arguments_may_be_passed_by_name(self):
        for kept in (Keeper(formulas=[PAIRS]), ShortKeeper(most=9, formulas=[PAIRS])):
            kept.take(number=3)
            kept.take_row(row=[1, 2])
            self.assertEqual(kept.numbers, [11, 6, 1])

    def test_the_properties_cannot_be_assigned(self):
        for kept in (Keeper([PAIRS]), ShortKeeper([PAIRS], 2)):
            with self.assertRaises(AttributeError):
                kept.numbers = []
            with self.assertRaises(AttributeError):
                kept.told = []


class Rows(Growing):
    def test_the_empty_row_at_first(self):
        for formulas in LISTS:
            self.assert_on(Keeper(formulas), formulas, [])
            self.assert_on(ShortKeeper(formulas, 0), formulas, [])

    def test_number_by_number(self):
        for formulas in LISTS:
            kept = Keeper(formulas)
            row = [3, -1, 0, 2, 2, 0, -5]
            for many, number in enumerate(row, 1):
                self.assertIsNone(kept.take(number))
                self.assert_on(kept, formulas, row[:many])

    def test_a_row_at_once(self):
        for formulas in LISTS:
            for row in ([], [0], [4], [1, 2], [3, -1, 0, 2, 2, 0, -5]):
                for kept in (Keeper(formulas), ShortKeeper(formulas, len(row))):
                    self.assertIsNone(kept.take_row(row))
                    self.assert_on(kept, formulas, row)

    def test_a_row_at_once_and_number_by_number_show_the_same(self):
        chance = random.Random(250)
        for formulas in LISTS:
            row = [chance.randint(-10 ** 6, 10 ** 6) for _ in range(12)]
            one, other = Keeper(formulas), Keeper(formulas)
            one.take_row(row)
            for number in row:
                other.take(number)
            self.assertEqual([one.numbers, one.told, len(one)], [other.numbers, other.told, len(other)])

    def test_rows_and_numbers_one_behind_the_other(self):
        chance = random.Random(251)
        for _ in range(30):
            formulas = [mixed_formula(chance, 4, 4, 4) for _ in range(chance.randint(1, 4))]
            kept = Keeper(formulas)
            row = []
            for _ in range(5):
                if chance.random() < 0.5:
                    row.append(chance.randint(-3, 3))
                    kept.take(row[-1])
                else:
                    further = [chance.randint(-3, 3) for _ in range(chance.randint(0, 3))]
                    row.extend(further)
                    kept.take_row(further)
                self.assert_on(kept, formulas, row)

    def test_formulas_written_in_any_way(self):
        crowded = Formula([(2, [1, 2]), (0, [4]), (1, []), (-2, [1, 2]), (3, [0, 1]), (3, [0, 1])])
        kept = Keeper([crowded, crowded])
        kept.take_row([2, 5, -1])
        self.assert_on(kept, [crowded, crowded], [2, 5, -1])

    def test_two_keepers_of_one_list_do_not_meet(self):
        formulas = [PAIRS]
        one, other = Keeper(formulas), Keeper(formulas)
        one.take_row([1, 2, 3])
        other.take(9)
        self.assert_on(one, formulas, [1, 2, 3])
        self.assert_on(other, formulas, [9])

    def test_a_hundred_calls(self):
        kept = Keeper([SQUARE, word_formula([0, 1])])
        for number in range(100):
            kept.take(number)
        total = sum(range(100))
        self.assertEqual(kept.told, [total ** 2, sum(place * place for place in range(100))])
        self.assertEqual(len(kept), 100)
        for _ in range(100):
            kept.undo()
        self.assert_on(kept, [SQUARE, word_formula([0, 1])], [])

    def test_greatest_formulas_and_rows(self):
        chance = random.Random(252)
        formulas = [
            Formula([(chance.randint(-10 ** 6, 10 ** 6), [chance.randint(0, 4) for _ in range(5)]) for _ in range(6)])
            for _ in range(4)
        ]
        kept = Keeper(formulas)
        row = [chance.randint(-10 ** 6, 10 ** 6) for _ in range(40)]
        kept.take_row(row)
        self.assertEqual(kept.numbers, [each.value_on(row) for each in keeper(formulas)])
        self.assertEqual(kept.told, [each.value_on(row) for each in formulas])


class Undo(Growing):
    def test_call_by_call_down_to_nothing(self):
        for formulas in LISTS:
            for kept in (Keeper(formulas), ShortKeeper(formulas, 20)):
                calls = [[3], [], [1, 2], [], [0], [-1, -1, 4]]
                for row in calls:
                    kept.take_row(row)
                for many in range(len(calls) - 1, -1, -1):
                    self.assertIsNone(kept.undo())
                    self.assert_on(kept, formulas, sum(calls[:many], []))
                self.assert_raised(NothingToUndo, 0, kept.undo)

    def test_nothing_to_undo_at_first(self):
        for kept in (Keeper([PAIRS]), ShortKeeper([PAIRS], 0)):
            self.assert_raised(NothingToUndo, 0, kept.undo)
            self.assert_on(kept, [PAIRS], [])
            kept.take_row([])
            kept.undo()
            self.assert_raised(NothingToUndo, 0, kept.undo)

    def test_an_empty_row_is_one_call(self):
        kept = Keeper([PAIRS])
        kept.take(3)
        kept.take_row([])
        kept.undo()
        self.assertEqual(len(kept), 1)
        kept.undo()
        self.assertEqual(len(kept), 0)

    def test_a_row_is_taken_back_as_a_whole(self):
        kept = Keeper([PAIRS])
        kept.take_row([1, 2, 3])
        kept.undo()
        self.assert_on(kept, [PAIRS], [])

    def test_the_row_may_grow_again(self):
        kept = Keeper([SPREAD])
        kept.take_row([5, 1])
        kept.take(7)
        kept.undo()
        kept.take(2)
        self.assert_on(kept, [SPREAD], [5, 1, 2])
        kept.undo()
        kept.undo()
        kept.take_row([4, 4])
        self.assert_on(kept, [SPREAD], [4, 4])

    def test_a_refused_call_is_not_taken_back(self):
        kept = ShortKeeper([PAIRS], 2)
        kept.take_row([1, 2])
        self.assert_raised(TooLong, 3, kept.take, 5)
        kept.undo()
        self.assert_on(kept, [PAIRS], [])
        self.assert_raised(NothingToUndo, 0, kept.undo)


class Limits(Growing):
    def test_a_negative_limit(self):
        for most in (-1, -2, -10 ** 30):
            for formulas in ([PAIRS], [NOTHING], LISTS[4]):
                self.assert_raised(InvalidNumber, most, ShortKeeper, formulas, most)

    def test_rows_up_to_the_limit(self):
        for most in range(4):
            kept = ShortKeeper([PAIRS], most)
            for number in range(most):
                kept.take(number)
            self.assert_on(kept, [PAIRS], list(range(most)))
            self.assert_raised(TooLong, most + 1, kept.take, 7)
            self.assert_on(kept, [PAIRS], list(range(most)))

    def test_rows_at_once(self):
        for most in range(5):
            for ahead in range(most + 1):
                for many in range(6):
                    kept = ShortKeeper([SQUARE], most)
                    kept.take_row([2] * ahead)
                    if ahead + many <= most:
                        kept.take_row([3] * many)
                        self.assert_on(kept, [SQUARE], [2] * ahead + [3] * many)
                    else:
                        self.assert_raised(TooLong, ahead + many, kept.take_row, [3] * many)
                        self.assert_on(kept, [SQUARE], [2] * ahead)

    def test_a_limit_of_0(self):
        kept = ShortKeeper([PAIRS], 0)
        self.assertIsNone(kept.take_row([]))
        self.assert_raised(TooLong, 1, kept.take, 0)
        self.assert_raised(TooLong, 2, kept.take_row, [0, 0])
        kept.undo()
        self.assert_raised(NothingToUndo, 0, kept.undo)

    def test_an_empty_row_in_a_full_keeper(self):
        kept = ShortKeeper([PAIRS], 1)
        kept.take(4)
        kept.take_row([])
        self.assert_on(kept, [PAIRS], [4])
        kept.undo()
        self.assert_on(kept, [PAIRS], [4])

    def test_there_is_room_again_when_a_call_is_taken_back(self):
        kept = ShortKeeper([PAIRS], 3)
        kept.take_row([1, 2])
        kept.take(3)
        self.assert_raised(TooLong, 4, kept.take, 4)
        kept.undo()
        self.assert_raised(TooLong, 4, kept.take_row, [4, 5])
        kept.take(4)
        self.assert_on(kept, [PAIRS], [1, 2, 4])

    def test_a_great_limit(self):
        kept = ShortKeeper([PAIRS], 10 ** 30)
        kept.take_row([1] * 40)
        self.assert_on(kept, [PAIRS], [1] * 40)

    def test_a_refused_call_changes_nothing(self):
        kept, other = ShortKeeper([SPREAD], 3), ShortKeeper([SPREAD], 3)
        for each in (kept, other):
            each.take_row([5, -2])
        row = [1, 2]
        self.assert_raised(TooLong, 4, kept.take_row, row)
        self.assertEqual(row, [1, 2])
        self.assertTrue(kept == other)
        self.assert_on(kept, [SPREAD], [5, -2])


class Equality(Growing):
    def assert_equal_both_ways(self, one, other, wanted):
        self.assertIs(one == other, wanted)
        self.assertIs(other == one, wanted)
        self.assertIs(one != other, not wanted)
        self.assertIs(other != one, not wanted)

    def grown(self, formulas, rows, most=None):
        kept = Keeper(formulas) if most is None else ShortKeeper(formulas, most)
        for row in rows:
            kept.take_row(row)
        return kept

    def test_equal_formulas_and_rows(self):
        for most in (None, 0, 9):
            for rows in ([], [[]]) if most == 0 else ([], [[]], [[1], [2, 3]], [[], [0], []]):
                one = self.grown([PAIRS, SQUARE], rows, most)
                other = self.grown([word_formula([1, 1]), Formula(SQUARE.terms)], copy.deepcopy(rows), most)
                self.assert_equal_both_ways(one, other, True)

    def test_formulas_count_as_passed(self):
        one = Keeper([SQUARE])
        for formulas in (
            [Formula(SQUARE.terms[::-1])],
            [Formula(SQUARE.terms + [(0, [])])],
            [SQUARE, SQUARE],
            [PAIRS],
            keeper([SQUARE]),
        ):
            self.assert_equal_both_ways(one, Keeper(formulas), False)
        self.assert_equal_both_ways(Keeper([PAIRS, SQUARE]), Keeper([SQUARE, PAIRS]), False)
        self.assert_equal_both_ways(Keeper([NOTHING]), Keeper([Formula([(0, [])])]), False)

    def test_rows_count_call_by_call(self):
        calls = [[], [[]], [[], []], [[1, 2]], [[1], [2]], [[1, 2], []], [[], [1, 2]], [[2, 1]], [[1]], [[1], [], [2]]]
        for place, rows in enumerate(calls):
            for other_place, other_rows in enumerate(calls):
                one, other = self.grown([PAIRS], rows), self.grown([PAIRS], other_rows)
                self.assert_equal_both_ways(one, other, place == other_place)

    def test_take_counts_as_take_row_of_one_number(self):
        for most in (None, 5):
            one, other = self.grown([PAIRS], [[4], [0]], most), self.grown([PAIRS], [], most)
            other.take(4)
            self.assert_equal_both_ways(one, other, False)
            other.take(0)
            self.assert_equal_both_ways(one, other, True)

    def test_the_same_numbers_are_not_enough(self):
        one, other = self.grown([NOTHING], [[1]]), self.grown([NOTHING], [[2]])
        self.assertEqual([one.numbers, len(one)], [other.numbers, len(other)])
        self.assert_equal_both_ways(one, other, False)

    def test_calls_that_are_taken_back_do_not_count(self):
        one, other = self.grown([PAIRS], [[4], [1, 1]]), self.grown([PAIRS], [[4], [7], [9]])
        other.undo()
        other.undo()
        other.take_row([1, 1])
        self.assert_equal_both_ways(one, other, True)
        one.undo()
        self.assert_equal_both_ways(one, other, False)

    def test_refused_calls_do_not_count(self):
        one, other = self.grown([PAIRS], [[4]], 2), self.grown([PAIRS], [[4]], 2)
        self.assert_raised(TooLong, 3, one.take_row, [1, 1])
        self.assert_equal_both_ways(one, other, True)

    def test_limits(self):
        limits = [None, 0, 1, 9]
        for one in limits:
            for other in limits:
                kept, other_kept = self.grown([PAIRS], [[]], one), self.grown([PAIRS], [[]], other)
                self.assert_equal_both_ways(kept, other_kept, one == other)

    def test_nothing_else_is_equal(self):
        for kept in (Keeper([PAIRS]), ShortKeeper([PAIRS], 3), Keeper([NOTHING])):
            for thing in (kept.numbers, kept.told, [], 0, 1, "", None, True, PAIRS, [PAIRS], (), {}):
                self.assert_equal_both_ways(kept, thing, False)


class Lists(Growing):
    def test_those_that_are_told_are_new(self):
        for kept in (Keeper([PAIRS, PAIRS]), ShortKeeper([PAIRS, PAIRS], 9)):
            kept.take_row([1, 2])
            for told in (kept.numbers, kept.told):
                told.append(5)
                told[0] = -1
            self.assertIsNot(kept.numbers, kept.numbers)
            self.assertIsNot(kept.told, kept.told)
            self.assert_on(kept, [PAIRS, PAIRS], [1, 2])
            kept.take(3)
            self.assert_on(kept, [PAIRS, PAIRS], [1, 2, 3])

    def test_what_was_told_stays_while_the_row_grows(self):
        kept = Keeper([PAIRS])
        kept.take(3)
        numbers, told = kept.numbers, kept.told
        kept.take_row([1, 2])
        kept.undo()
        kept.undo()
        self.assertEqual([numbers, told], [[0, 3, 1], [0]])

    def test_lists_that_were_passed_may_be_changed(self):
        for most in (None, 9):
            formulas, row = [PAIRS], [1, 2]
            kept = Keeper(formulas) if most is None else ShortKeeper(formulas, most)
            other = Keeper([PAIRS]) if most is None else ShortKeeper([PAIRS], most)
            formulas.append(SQUARE)
            formulas[0] = SQUARE
            kept.take_row(row)
            other.take_row([1, 2])
            row[0] = 9
            row.append(3)
            self.assert_on(kept, [PAIRS], [1, 2])
            self.assertTrue(kept == other)

    def test_nothing_that_is_passed_is_changed(self):
        formulas, row = [SQUARE, Formula([(0, [3]), (2, [1, 1]), (2, [1, 1])])], [3, 1, 2]
        before = [[each.terms for each in formulas], list(row)]
        for kept in (Keeper(formulas), ShortKeeper(formulas, 9)):
            kept.take_row(row)
            kept.undo()
            kept.take_row(row)
            self.assertEqual([[each.terms for each in formulas], row], before)


if __name__ == "__main__":
    unittest.main()
