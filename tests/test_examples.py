"""The examples of the document's interface, word for word, and those of README.md."""

import doctest
import pathlib
import unittest

README = pathlib.Path(__file__).resolve().parent.parent / "README.md"

FORMULAS_AND_FORMS = """
>>> from nestsums.formulas import Formula, word_formula
>>> from nestsums.forms import are_alike, classes, length_of, plain
>>> spread = Formula([(1, [2, 0]), (-2, [1, 1]), (1, [0, 2])])
>>> [word_formula([1, 1]).value_on([3, 1, 2]), word_formula([0, 1]).value_on([3, 1, 2]), spread.value_on([3, 1, 2]), word_formula([]).value_on([]), plain(Formula([(1, [2]), (3, []), (-1, [2]), (2, [1])])).terms, are_alike(spread, Formula([(1, [2, 0]), (1, [0, 2])])), length_of(spread), length_of(Formula([])), classes([spread, Formula([]), plain(spread)])]
[11, 5, 6, 1, [(3, []), (2, [1])], False, 2, -1, [[0, 2], [1]]]
"""

PARTING_AND_IDENTITIES = """
>>> from nestsums.formulas import Formula, word_formula
>>> from nestsums.identities import identity_parts, side_formula
>>> from nestsums.parting import on_kind, parting, parting_among
>>> first, second = word_formula([1, 2]), word_formula([2, 1])
>>> [parting(first, second), parting(word_formula([1, 1]), word_formula([2])), parting(word_formula([2]), word_formula([1])), parting_among(word_formula([2]), word_formula([1]), "bits"), parting_among(word_formula([2]), word_formula([1]), "signs"), on_kind(second, "signs").terms, parting(Formula([(1, [])]), Formula([]))]
[([1, 2], 2), ([1], -1), ([2], 2), None, ([-1], 2), [(1, [0, 1])], ([], 1)]
>>> [side_formula([(1, [[1], [1]])]).terms, identity_parts([(1, [[0], [2]]), (-1, [[1], [1]])], [(1, [[2, 0]]), (-2, [[1, 1]]), (1, [[0, 2]])]), identity_parts([(1, [[0], [0]])], [(2, [[0, 0]])]), side_formula([(5, [])]).terms]
[[(1, [2]), (2, [1, 1])], None, ([0], 1), [(5, [])]]
"""

JOINS_AND_FAR = """
>>> from nestsums.far import far_value
>>> from nestsums.formulas import word_formula
>>> from nestsums.joins import begun, cuts, ended, moved, product, repeated, stretched, turned
>>> pairs, later = word_formula([1, 1]), word_formula([1, 2])
>>> [product(word_formula([1]), word_formula([2])).terms, repeated(pairs, 3).terms, moved(pairs, 2).terms, stretched(later, -2).terms, turned(later).terms, begun(pairs, [3]).terms, ended(later, [3]).terms, cuts(later)]
[[(1, [3]), (1, [1, 2]), (1, [2, 1])], [(3, [2]), (9, [1, 1])], [(4, [0, 0]), (2, [0, 1]), (2, [1, 0]), (1, [1, 1])], [(-8, [1, 2])], [(1, [2, 1])], [(3, [1]), (1, [1, 1])], [(9, [1]), (1, [1, 2])], [(1, [], [1, 2]), (1, [1], [2]), (1, [1, 2], [])]]
>>> [far_value(pairs, [([1], 10 ** 30)]) == 10 ** 30 * (10 ** 30 - 1) // 2, far_value(word_formula([1]), [([([2, 3], 2), ([1], 1)], 3)]), far_value(pairs, []), far_value(pairs, [([3, 1, 2], 1)])]
[True, 33, 0, 11]
"""

KEEPERS = """
>>> from nestsums.formulas import Formula, word_formula
>>> from nestsums.keepers import Keeper, ShortKeeper, keeper, parting_behind, shares_in, step_rules
>>> pairs, square = word_formula([1, 1]), Formula([(2, [1, 1]), (1, [2])])
>>> [[each.terms for each in keeper([square])], shares_in([square, pairs]), step_rules([pairs]), parting_behind(pairs, [1, 3], [3, 1]), parting_behind(pairs, [1, 3], [2, 2]), parting_behind(pairs, [1, 2], [3])]
[[[(1, [2]), (2, [1, 1])], [(2, [1])], [(1, [])]], [[2, 1, 0, 0], [1, 0, 0, 0]], [[(0, [1, 0, 0]), (1, [0, 1, 0])], [(0, [0, 1, 0]), (1, [0, 0, 1])], [(0, [0, 0, 1])]], None, ([], -1), ([], 2)]
>>> kept = Keeper([pairs])
>>> [kept.take(3), kept.take_row([1, 2]), kept.numbers, kept.told, len(kept), kept.undo(), kept.numbers, len(kept), kept == ShortKeeper([pairs], 9)]
[None, None, [11, 6, 1], [11], 3, None, [0, 3, 1], 1, False]
"""

ORDERS_FUNDAMENTALS_RELATIONS = """
>>> from nestsums.formulas import Formula, word_formula
>>> from nestsums.fundamentals import falling, in_fundamental, is_fundamental
>>> from nestsums.orders import in_power_sums, is_orderless, sees_zeros
>>> from nestsums.relations import mixture, relations
>>> pairs, index, late = word_formula([1, 1]), word_formula([0, 1]), word_formula([2, 1])
>>> [is_orderless(pairs), is_orderless(index), sees_zeros(pairs), sees_zeros(index), in_power_sums(pairs), in_power_sums(index), is_fundamental([1, 2]), is_fundamental([1, 1]), falling([1, 2, 1]), in_fundamental(late), in_fundamental(pairs)]
[True, False, False, True, [(-1, 2, [2]), (1, 2, [1, 1])], None, True, False, [[1, 2], [1]], [(-1, 1, [[3]]), (-1, 1, [[1, 2]]), (1, 1, [[1], [2]])], [(-1, 2, [[2]]), (1, 2, [[1], [1]])]]
>>> square = Formula([(2, [1, 1]), (1, [2])])
>>> [relations([square, pairs, word_formula([2])]), mixture(word_formula([2]), [square, pairs]), mixture(pairs, [square, word_formula([2])]), mixture(pairs, [pairs, pairs])]
[[[1, -2, -1]], [1, -2], None, [0, 1]]
"""

SHELVES = """
>>> from nestsums.formulas import Formula, word_formula
>>> from nestsums.shelves import Shelf, SmallShelf
>>> shelf = Shelf()
>>> [shelf.put("b", word_formula([1])), shelf.put("a", Formula([(2, [1]), (-1, [1])])), shelf.titles, shelf.alike_on(word_formula([1])), shelf.drop("b"), len(shelf), shelf.undo(), shelf.formula_on("b").terms, len(shelf.story()), Shelf() == SmallShelf(5)]
[None, None, ['a', 'b'], ['a', 'b'], None, 1, None, [(1, [1])], 2, False]
"""

TEXTS_AND_READINGS = """
>>> from nestsums.formulas import Formula
>>> from nestsums.readings import read_formula
>>> from nestsums.texts import show_formula
>>> [show_formula(Formula([(2, [1, 1]), (1, [2]), (-1, [])])), show_formula(Formula([])), read_formula('1 [2 0]; -2 [1 1]; 1 [0 2]').value_on([3, 1, 2]), read_formula('none').terms]
['2 [1 1]; 1 [2]; -1 []', 'none', 6, []]
"""


class Examples(unittest.TestCase):
    def assert_holds(self, text):
        example = doctest.DocTestParser().get_doctest(text, {}, "example", None, 0)
        told = []
        outcome = doctest.DocTestRunner(verbose=False).run(example, out=told.append)
        self.assertGreater(outcome.attempted, 0)
        self.assertEqual(outcome.failed, 0, "".join(told))

    def test_formulas_and_forms(self):
        self.assert_holds(FORMULAS_AND_FORMS)

    def test_parting_and_identities(self):
        self.assert_holds(PARTING_AND_IDENTITIES)

    def test_joins_and_far(self):
        self.assert_holds(JOINS_AND_FAR)

    def test_keepers(self):
        self.assert_holds(KEEPERS)

    def test_orders_fundamentals_and_relations(self):
        self.assert_holds(ORDERS_FUNDAMENTALS_RELATIONS)

    def test_shelves(self):
        self.assert_holds(SHELVES)

    def test_texts_and_readings(self):
        self.assert_holds(TEXTS_AND_READINGS)

    def test_readme(self):
        self.assert_holds(README.read_text(encoding="utf-8").replace("```", ""))


if __name__ == "__main__":
    unittest.main()
