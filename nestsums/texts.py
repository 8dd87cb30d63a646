"""Texts of formulas."""


def show_formula(formula):
    """Return the text of a formula."""
    terms = formula.terms
    if not terms:
        return "none"
    return "; ".join([_shown(coefficient, word) for coefficient, word in terms])


def _shown(coefficient, word):
    letters = " ".join([str(letter) for letter in word])
    return f"{coefficient} [{letters}]"
