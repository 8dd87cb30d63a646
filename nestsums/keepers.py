"""Keepers: the formulas whose values tell, while a row grows, those of some formulas."""

from nestsums.errors import InvalidNumber, NothingToUndo, TooLong
from nestsums.joins import begun
from nestsums.kin import Kin
from nestsums.parting import parting
from nestsums.words import power


def keeper(formulas):
    """Return the keeper of formulas, a list of formulas."""
    return Kin(formulas).keeper_formulas()


def shares_in(formulas):
    """Return, for each formula, the integers whose products with the keeper's formulas add up to it."""
    kin = Kin(formulas)
    return [kin.shares_of(formula) for formula in formulas]


def step_rules(formulas):
    """Return, for each formula of the keeper, how its value changes with one more number: (letter, integers)."""
    return Kin(formulas).rules()


def parting_behind(formula, row, other_row):
    """Return the first row behind which a formula parts two rows, and the difference, or None."""
    return parting(begun(formula, row), begun(formula, other_row))


class Keeper:
    """A row that grows, told by the values of a keeper's formulas."""

    def __init__(self, formulas):
        kin = Kin(formulas)
        self._formulas = list(formulas)
        self._shares = [_not_0(kin.shares_of(formula)) for formula in formulas]
        self._rules = [[(letter, _not_0(integers)) for letter, integers in rule] for rule in kin.rules()]
        # The rows of the calls that are not taken back, and the values at
        # first and behind each of these calls.
        self._rows = []
        self._values = [[formula.value_on([]) for formula in kin.keeper_formulas()]]
        self._most = None

    @property
    def numbers(self):
        """The values of the keeper's formulas on the present row."""
        return list(self._values[-1])

    @property
    def told(self):
        """The values of the given formulas on the present row."""
        return [_weighed(shares, self._values[-1]) for shares in self._shares]

    def take(self, number):
        """Put a number behind the row."""
        self._grow([number])

    def take_row(self, row):
        """Put all numbers of a row behind the row."""
        self._grow(row)

    def undo(self):
        """Take back the last call of take or take_row that is not taken back yet."""
        if not self._rows:
            raise NothingToUndo(0)
        self._rows.pop()
        self._values.pop()

    def __len__(self):
        return len([number for row in self._rows for number in row])

    def __eq__(self, other):
        return (
            isinstance(other, Keeper)
            and self._formulas == other._formulas
            and self._rows == other._rows
            and self._most == other._most
        )

    def _grow(self, row):
        values = self._values[-1]
        for number in row:
            values = [_stepped(rule, number, values) for rule in self._rules]
        self._rows.append(list(row))
        self._values.append(values)


class ShortKeeper(Keeper):
    """A keeper whose row has at most so many numbers."""

    def __init__(self, formulas, most):
        if most < 0:
            raise InvalidNumber(most)
        super().__init__(formulas)
        self._most = most

    def take(self, number):
        """Put a number behind the row, if there is room."""
        self._check_room(1)
        super().take(number)

    def take_row(self, row):
        """Put all numbers of a row behind the row, if there is room."""
        self._check_room(len(row))
        super().take_row(row)

    def _check_room(self, many):
        length = len(self) + many
        if length > self._most:
            raise TooLong(length)


def _not_0(integers):
    """Return the integers other than 0, each with its place ahead of it."""
    return [(place, integer) for place, integer in enumerate(integers) if integer != 0]


def _weighed(shares, values):
    return sum([integer * values[place] for place, integer in shares])


def _stepped(rule, number, values):
    """Return the value that a rule tells for one more number."""
    return sum([power(number, letter) * _weighed(shares, values) for letter, shares in rule])
