"""Shelves of formulas, by titles."""

from nestsums.errors import InvalidName, InvalidNumber, NothingToUndo, TooLong
from nestsums.forms import are_alike, length_of


class Shelf:
    """Formulas by titles, each one letter from a to z."""

    def __init__(self):
        self._formulas = {}
        self._calls = []
        # For each call the formulas by titles as they were before it.
        self._earlier = []
        self._most = None

    @property
    def titles(self):
        """The titles, ascending."""
        return sorted(self._formulas)

    def put(self, title, formula):
        """Put a formula under a title, in the place of an earlier one if there is one."""
        _check_title(title)
        self._change(("put", title, formula))
        self._formulas[title] = formula

    def drop(self, title):
        """Take a title away."""
        self._check_there(title)
        self._change(("drop", title))
        del self._formulas[title]

    def undo(self):
        """Take back the last call of put or drop that is not taken back yet."""
        if not self._calls:
            raise NothingToUndo(0)
        self._calls.pop()
        self._formulas = self._earlier.pop()

    def formula_on(self, title):
        """Return the formula under a title."""
        self._check_there(title)
        return self._formulas[title]

    def alike_on(self, formula):
        """Return the titles, ascending, whose formulas are alike to a formula."""
        return [title for title in self.titles if are_alike(self._formulas[title], formula)]

    def story(self):
        """Return the calls that are not taken back: ("put", title, formula) and ("drop", title)."""
        return list(self._calls)

    def __len__(self):
        return len(self._formulas)

    def __eq__(self, other):
        # The story tells the titles and the formulas, too.
        return isinstance(other, Shelf) and self._calls == other._calls and self._most == other._most

    def _change(self, call):
        """Note a call, ahead of what it changes."""
        self._calls.append(call)
        self._earlier.append(dict(self._formulas))

    def _check_there(self, title):
        if title not in self._formulas:
            raise InvalidName(title)


class SmallShelf(Shelf):
    """A shelf with formulas whose plain ones have words of at most so many letters."""

    def __init__(self, most):
        if most < 0:
            raise InvalidNumber(most)
        super().__init__()
        self._most = most

    def put(self, title, formula):
        """Put a formula whose words are short enough under a title, in the place of an earlier one if there is one."""
        _check_title(title)
        length = length_of(formula)
        if length > self._most:
            raise TooLong(length)
        super().put(title, formula)


def _check_title(title):
    if len(title) != 1 or title < "a" or title > "z":
        raise InvalidName(title)
