"""The kin of some formulas, and the formulas of their keeper."""

from nestsums.columns import columns_of, row_of, words_of
from nestsums.formulas import Formula
from nestsums.lattices import Lattice


class Kin:
    """The lattice of the kin of some formulas; its steps are the formulas of their keeper."""

    def __init__(self, formulas):
        # Derivatives have no other words than beginnings of the formulas' words.
        self._columns = columns_of(_beginnings_of(words_of(formulas)))
        self._words = list(self._columns)
        self._lattice = Lattice()
        for formula in formulas:
            self._gather(row_of(formula, self._columns))

    def keeper_formulas(self):
        """Return the formulas of the keeper."""
        return [self._formula_of(step) for step in self._lattice.steps()]

    def shares_of(self, formula):
        """Return the integers whose products with the keeper's formulas add up to a formula that is kin."""
        return self._lattice.shares_of(row_of(formula, self._columns))

    def rules(self):
        """Return the step rule of each formula of the keeper."""
        return [self._rule_of(place, step) for place, step in enumerate(self._lattice.steps())]

    def _gather(self, formula_row):
        """Put a row into the lattice, its derivatives, the derivatives of these, and so on."""
        waiting = [formula_row]
        while waiting:
            row = waiting.pop()
            # The derivatives of a row that is in the lattice are sums of
            # multiples of derivatives that were put in, or are waiting.
            if self._lattice.include(row):
                waiting.extend(list(self._derivatives_of(row).values()))

    def _derivatives_of(self, row):
        """Return the rows of the derivatives other than 0, by the letters."""
        found = {}
        for column in row:
            word = self._words[column]
            if len(word) > 0:
                derivative = found.setdefault(word[-1], {})
                derivative[self._columns[word[:-1]]] = row[column]
        return found

    def _rule_of(self, place, step):
        derivatives = self._derivatives_of(step)
        integers = self._lattice.shares_of(derivatives.get(0, {}))
        # The value on the row without the number counts, too.
        integers[place] += 1
        rule = [(0, integers)]
        for letter in sorted(derivatives):
            if letter > 0:
                rule.append((letter, self._lattice.shares_of(derivatives[letter])))
        return rule

    def _formula_of(self, row):
        # Columns go from the greatest word to the least one.
        ascending = sorted(row, reverse=True)
        return Formula([(row[column], list(self._words[column])) for column in ascending])


def _beginnings_of(words):
    return [word[:many] for word in words for many in range(len(word) + 1)]
