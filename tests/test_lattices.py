"""Lattices: the steps of all sums of integer multiples of rows, by an own reckoning."""

import random
import unittest

from nestsums.lattices import Lattice

from reckoning import echelon


def as_dict(row):
    return {column: number for column, number in enumerate(row) if number != 0}


def as_row(numbers, many):
    return [numbers.get(column, 0) for column in range(many)]


def mixed_rows(chance, many, columns, bound):
    """Return mixed rows, some of them without numbers, doubled, or sums of others."""
    rows = []
    for _ in range(many):
        row = [chance.choice([0, 1, 2]) and chance.randint(-bound, bound) for _ in range(columns)]
        if rows and chance.random() < 0.3:
            factor = chance.randint(-3, 3)
            row = [factor * number + other for number, other in zip(chance.choice(rows), chance.choice(rows))]
        rows.append(row)
    return rows


class Steps(unittest.TestCase):
    def test_they_are_the_reduced_echelon_rows(self):
        chance = random.Random(200)
        for _ in range(300):
            columns = chance.randint(1, 6)
            rows = mixed_rows(chance, chance.randint(0, 6), columns, chance.choice([1, 4, 60, 10 ** 6]))
            lattice = Lattice()
            for row in rows:
                lattice.include(as_dict(row))
            told = [as_row(step, columns) for step in lattice.steps()]
            self.assertEqual(told, echelon(rows), rows)

    def test_include_tells_whether_the_lattice_has_grown(self):
        chance = random.Random(201)
        found = []
        for _ in range(100):
            rows = mixed_rows(chance, 6, 3, 5)
            lattice = Lattice()
            for many, row in enumerate(rows):
                grown = lattice.include(as_dict(row))
                self.assertIs(grown, echelon(rows[:many]) != echelon(rows[:many + 1]))
                found.append(grown)
        self.assertEqual(set(found), {True, False})

    def test_shares_add_up_to_the_row(self):
        chance = random.Random(202)
        for _ in range(100):
            rows = mixed_rows(chance, 4, 5, 30)
            lattice = Lattice()
            for row in rows:
                lattice.include(as_dict(row))
            for row in rows:
                shares = lattice.shares_of(as_dict(row))
                steps = lattice.steps()
                self.assertEqual(len(shares), len(steps))
                total = [
                    sum(share * step.get(column, 0) for share, step in zip(shares, steps)) for column in range(5)
                ]
                self.assertEqual(total, row)

    def test_the_rest_differs_by_a_row_of_the_lattice_and_is_small(self):
        chance = random.Random(203)
        for _ in range(100):
            rows = mixed_rows(chance, 3, 4, 9)
            lattice = Lattice()
            for row in rows:
                lattice.include(as_dict(row))
            other = [chance.randint(-50, 50) for _ in range(4)]
            rest = as_row(lattice.rest_of(as_dict(other)), 4)
            difference = [number - left for number, left in zip(other, rest)]
            self.assertEqual(echelon(rows), echelon(rows + [difference]))
            for step in lattice.steps():
                first = min(step)
                self.assertIn(rest[first], range(step[first]))

    def test_rows_that_are_passed_or_told_stay(self):
        lattice = Lattice()
        passed = {0: 4, 2: -6}
        lattice.include(passed)
        lattice.include({0: 6, 1: 1})
        told = lattice.steps()
        self.assertEqual(passed, {0: 4, 2: -6})
        told[0].clear()
        passed.clear()
        self.assertEqual(lattice.steps(), [{0: 2, 1: 1, 2: 6}, {1: 2, 2: 18}])
        for each in (lattice.include, lattice.rest_of, lattice.shares_of):
            passed = {0: 4, 1: 2, 2: 12}
            each(passed)
            self.assertEqual(passed, {0: 4, 1: 2, 2: 12})

    def test_great_numbers_stay_within_a_few_seconds(self):
        chance = random.Random(204)
        rows = [[chance.randint(-10 ** 6, 10 ** 6) for _ in range(40)] for _ in range(30)]
        lattice = Lattice()
        for row in rows:
            self.assertIs(lattice.include(as_dict(row)), True)
        for row in rows:
            self.assertEqual(lattice.rest_of(as_dict(row)), {})


if __name__ == "__main__":
    unittest.main()
