"""Plain formulas, and which formulas are alike."""

from nestsums.formulas import Formula


def plain(formula):
    """Return the plain formula that is alike."""
    totals = {}
    for coefficient, word in formula.terms:
        key = tuple(word)
        totals[key] = totals.get(key, 0) + coefficient
    ordered = sorted([(len(letters), letters) for letters in totals if totals[letters] != 0])
    return Formula([(totals[letters], list(letters)) for _, letters in ordered])


def are_alike(formula, other_formula):
    """Tell whether two formulas have the same values on all rows."""
    return plain(formula) == plain(other_formula)


def length_of(formula):
    """Return the number of letters of the plain formula's longest word, -1 if there is none."""
    terms = plain(formula).terms
    if not terms:
        return -1
    # Words ascend by their number of letters, so the last one is a longest.
    _, longest = terms[-1]
    return len(longest)


def classes(formulas):
    """Return the lists of the indices of alike formulas, ordered by their first ones."""
    plain_ones = [plain(formula) for formula in formulas]
    members = {}
    for index, plain_one in enumerate(plain_ones):
        members.setdefault(plain_ones.index(plain_one), []).append(index)
    return list(members.values())
