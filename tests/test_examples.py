"""The examples of the document's interface, word for word."""

import doctest
import unittest

FORMULAS_AND_FORMS = """
>>> from nestsums.formulas import Formula, word_formula
>>> from nestsums.forms import are_alike, classes, length_of, plain
>>> spread = Formula([(1, [2, 0]), (-2, [1, 1]), (1, [0, 2])])
>>> [word_formula([1, 1]).value_on([3, 1, 2]), word_formula([0, 1]).value_on([3, 1, 2]), spread.value_on([3, 1, 2]), word_formula([]).value_on([]), plain(Formula([(1, [2]), (3, []), (-1, [2]), (2, [1])])).terms, are_alike(spread, Formula([(1, [2, 0]), (1, [0, 2])])), length_of(spread), length_of(Formula([])), classes([spread, Formula([]), plain(spread)])]
[11, 5, 6, 1, [(3, []), (2, [1])], False, 2, -1, [[0, 2], [1]]]
"""


class Examples(unittest.TestCase):
    def assert_holds(self, text):
        example = doctest.DocTestParser().get_doctest(text, {}, "example", None, 0)
        told = []
        outcome = doctest.DocTestRunner(verbose=False).run(example, out=told.append)
        self.assertGreater(outcome.attempted, 0)
        self.assertEqual(outcome.failed, 0, "".join(told))

    def test_formulas_and_forms(self):
        self.assert_holds(FORMULAS_AND_FORMS)


if __name__ == "__main__":
    unittest.main()
