"""What the tests of several files share: words, rows, and sums told by a plain walk."""

from itertools import combinations, product


def words_up_to(most, letters):
    """Return all words of at most so many of the letters, in the order of words."""
    return [list(word) for many in range(most + 1) for word in product(letters, repeat=many)]


def rows_up_to(most, numbers):
    """Return all rows of at most so many of the numbers."""
    return words_up_to(most, numbers)


def walked_sum(word, row):
    """Return the sum of a word on a row by a walk over all choices of numbers."""
    total = 0
    for chosen in combinations(row, len(word)):
        factor = 1
        for number, letter in zip(chosen, word):
            factor *= number ** letter
        total += factor
    return total


def walked_value(terms, row):
    """Return the value of the formula with the terms on a row by such walks."""
    return sum(coefficient * walked_sum(word, row) for coefficient, word in terms)
