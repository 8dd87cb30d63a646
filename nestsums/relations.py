"""Sums of multiples of formulas: those that are always 0, and those that are alike to another formula."""

from nestsums.columns import columns_of, row_of, words_of
from nestsums.joins import scaled
from nestsums.lattices import Lattice


def relations(formulas):
    """Return the lists of integers whose products with the formulas add up to 0 on all rows, in steps."""
    columns = columns_of(words_of(formulas))
    marks = len(columns)
    steps = _marked_sums(formulas, columns).steps()
    return [_marks_of(step, marks, len(formulas)) for step in steps if min(step) >= marks]


def mixture(wanted, formulas):
    """Return integers whose products with the formulas add up to a wanted one on all rows, None if there are none."""
    columns = columns_of(words_of(formulas + [wanted]))
    marks = len(columns)
    # Less the wanted formula, plus a sum of multiples that takes off all
    # words, if there is one; the marks tell which sum it is.
    rest = _marked_sums(formulas, columns).rest_of(row_of(scaled(wanted, -1), columns))
    if min(rest, default=marks) < marks:
        return None
    return _marks_of(rest, marks, len(formulas))


def _marked_sums(formulas, columns):
    """Return the lattice of the formulas, each with a mark 1 in a column of its own, behind those of the words.

    So the marks of each row tell how often it has each formula, and a row
    without words is a relation.
    """
    lattice = Lattice()
    for index, formula in enumerate(formulas):
        row = row_of(formula, columns)
        row[len(columns) + index] = 1
        lattice.include(row)
    return lattice


def _marks_of(row, marks, many):
    """Return the marks of a row, the columns of which begin at a given one."""
    return [row.get(marks + index, 0) for index in range(many)]
