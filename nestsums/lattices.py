"""Lattices: all sums of integer multiples of some rows of integers."""


class Lattice:
    """A lattice, empty at first, told by its steps.

    A row is a dict of its numbers other than 0 by their columns. The steps
    are the only rows of the lattice such that each row of it is a sum of
    integer multiples of them in exactly one way, the first number of each is
    greater than 0 and stands in a later column than that of the step above
    it, and the numbers above it in other steps are from 0 to one less.
    """

    def __init__(self):
        self._steps = {}
        # The columns of the first numbers of the steps, ascending.
        self._firsts = []

    def steps(self):
        """Return the steps, from the top, as new dicts."""
        return [dict(self._steps[first]) for first in self._firsts]

    def include(self, row):
        """Put a row into the lattice; return True if it was not in it before, otherwise False."""
        changed = []
        rest = self.rest_of(row)
        while rest:
            first = min(rest)
            changed.append(first)
            if first in self._steps:
                rest = self._divided(first, rest)
            else:
                sign = 1 if rest[first] > 0 else -1
                self._steps[first] = {column: sign * rest[column] for column in rest}
                self._firsts = sorted(self._steps)
                rest = {}
        self._tidy(changed)
        return len(changed) > 0

    def rest_of(self, row):
        """Return what is left of a row when steps are taken off, from the top: nothing if it is in the lattice.

        The numbers in the columns of the steps' first numbers are from 0 to one less than these.
        """
        rest = dict(row)
        for first in self._firsts:
            self._take_off(rest, first)
        return rest

    def shares_of(self, row):
        """Return the integers whose products with the steps add up to a row of the lattice."""
        rest = dict(row)
        return [self._take_off(rest, first) for first in self._firsts]

    def _take_off(self, row, first):
        """Take a step off a row as often as leaves a number from 0 to one less than its first; return how often."""
        step = self._steps[first]
        times = row.get(first, 0) // step[first]
        if times != 0:
            for column in step:
                left = row.get(column, 0) - times * step[column]
                if left != 0:
                    row[column] = left
                else:
                    del row[column]
        return times

    def _divided(self, first, rest):
        """Give a step the greatest common divisor of its first number and a rest's; return the rest that is left."""
        step = self._steps[first]
        number, other = step[first], rest[first]
        divisor, share, other_share = _bezout(number, other)
        self._steps[first] = _combined(share, step, other_share, rest)
        return self.rest_of(_combined(number // divisor, rest, -(other // divisor), step))

    def _tidy(self, changed):
        """Take steps off those above them, where the first numbers in some columns have changed."""
        # From the bottom: tidy steps that are taken off make no great numbers.
        for first in reversed(self._firsts):
            step = self._steps[first]
            if any([column in step for column in changed]):
                for lower in self._firsts:
                    if lower > first:
                        self._take_off(step, lower)


def _combined(factor, row, other_factor, other):
    """Return the sum of multiples of two rows."""
    result = {}
    for column in row:
        result[column] = factor * row[column]
    for column in other:
        result[column] = result.get(column, 0) + other_factor * other[column]
    return {column: result[column] for column in result if result[column] != 0}


def _bezout(number, other):
    """Return the greatest common divisor of two numbers above 0, and the integers that make it of them."""
    shares, other_shares = (1, 0), (0, 1)
    while other != 0:
        times = number // other
        rest_shares = (shares[0] - times * other_shares[0], shares[1] - times * other_shares[1])
        number, other = other, number - times * other
        shares, other_shares = other_shares, rest_shares
    return (number, shares[0], shares[1])
