"""Formulas as rows of integers, with a column for each word."""

from nestsums.forms import plain


def columns_of(words):
    """Return the columns of words, told as tuples: from 0 on, from the greatest word to the least one."""
    ordered = sorted({(len(word), word): True for word in words}, reverse=True)
    return {word: column for column, (_, word) in enumerate(ordered)}


def words_of(formulas):
    """Return the words of formulas as tuples."""
    return [tuple(word) for formula in formulas for _, word in formula.terms]


def row_of(formula, columns):
    """Return the coefficients of the plain formula by the columns of their words."""
    return {columns[tuple(word)]: coefficient for coefficient, word in plain(formula).terms}
