"""What the tests of several files share: words, rows, formulas, and values told by a plain walk."""

from itertools import combinations, permutations, product
from math import comb

from nestsums.formulas import Formula


def words_up_to(most, letters):
    """Return all words of at most so many of the letters, in the order of words."""
    return [list(word) for many in range(most + 1) for word in product(letters, repeat=many)]


def rows_up_to(most, numbers):
    """Return all rows of at most so many of the numbers."""
    return words_up_to(most, numbers)


def walked_sum(word, row):
    """Return the sum of a word on a row by a walk over all choices of numbers."""
    total = 0
    for chosen in combinations(row, len(word)):
        factor = 1
        for number, letter in zip(chosen, word):
            factor *= number ** letter
        total += factor
    return total


def walked_value(terms, row):
    """Return the value of the formula with the terms on a row by such walks."""
    return sum(coefficient * walked_sum(word, row) for coefficient, word in terms)


def walked_side(side, row):
    """Return the value of a side on a row by such walks."""
    total = 0
    for coefficient, words in side:
        for word in words:
            coefficient *= walked_sum(word, row)
        total += coefficient
    return total


def first_unlike(value, other_value, rows):
    """Return the first of the rows on which two functions have unlike values, and the difference, or None."""
    for row in rows:
        difference = value(row) - other_value(row)
        if difference != 0:
            return row, difference
    return None


def carried_on(values, at):
    """Return the value at a number of the polynomial that has the values at 0, 1, 2 and so on."""
    total = 0
    for order in range(len(values)):
        total += values[0] * comb(at, order)
        values = [behind - ahead for ahead, behind in zip(values, values[1:])]
    return total


def mixed_formula(chance, most_terms, most_letters, greatest, bound=9):
    """Return a formula of at most so many terms, with words of at most so many letters, up to the greatest."""
    return Formula([
        (chance.randint(-bound, bound), [chance.randint(0, greatest) for _ in range(chance.randint(0, most_letters))])
        for _ in range(chance.randint(0, most_terms))
    ])


def rearranged(letters):
    """Return all words that are rearrangements of letters, each once."""
    return [list(word) for word in sorted(set(permutations(letters)))]


def orderless_formula(chance, most_terms, most_letters, greatest, bound=9):
    """Return a formula that has all rearrangements of its words, in a mixed sequence, some of them in two terms."""
    terms = []
    for coefficient, word in mixed_formula(chance, most_terms, most_letters, greatest, bound).terms:
        for each in rearranged(word):
            part = chance.choice([0, 0, 5])
            terms.extend([(coefficient - part, each), (part, each)])
    chance.shuffle(terms)
    return Formula(terms)


def is_blocks(part):
    """Tell whether a part of a block is a list of blocks, not a row."""
    return bool(part) and isinstance(part[0], tuple)


def written_out(blocks):
    """Return the row that blocks stand for."""
    row = []
    for part, times in blocks:
        inner = written_out(part) if is_blocks(part) else part
        row.extend(inner * times)
    return row


def mixed_blocks(chance, depth, most, times, numbers):
    """Return at most so many blocks, mostly as deep, of rows of at most three of the numbers."""
    blocks = []
    for _ in range(chance.randint(0, most)):
        if depth > 1 and chance.random() < 0.7:
            part = mixed_blocks(chance, depth - 1, most, times, numbers)
        else:
            part = [chance.choice(numbers) for _ in range(chance.randint(0, 3))]
        blocks.append((part, chance.choice(times)))
    return blocks


def is_plain(formula):
    """Tell whether the words of a formula ascend, each once, and no coefficient is 0."""
    keys = [(len(word), word) for _, word in formula.terms]
    ascending = all(one < other for one, other in zip(keys, keys[1:]))
    return ascending and 0 not in [coefficient for coefficient, _ in formula.terms]


def lists_within(thing):
    """Return all lists in what lists and tuples are put together of, itself among them."""
    found = [thing] if isinstance(thing, list) else []
    if isinstance(thing, (list, tuple)):
        for each in thing:
            found.extend(lists_within(each))
    return found


def share_no_list(*things):
    """Tell whether no list occurs twice within the things."""
    found = [each for thing in things for each in lists_within(thing)]
    return len(found) == len({id(each) for each in found})
