"""Points [3], [4], [5]: shelves of formulas, without and with a limit."""

import copy
import random
import string
import unittest

from nestsums import shelves
from nestsums.errors import InvalidName, InvalidNumber, NothingToUndo, TooLong
from nestsums.formulas import Formula, word_formula
from nestsums.forms import are_alike, length_of
from nestsums.shelves import Shelf, SmallShelf

NOTHING = Formula([])
ONE = word_formula([1])
ALIKE_ONE = Formula([(2, [1]), (-1, [1])])
PAIRS = word_formula([1, 1])
CANCELS = Formula([(3, [1, 1, 1]), (2, [0]), (-3, [1, 1, 1])])
WRONG_TITLES = ["", "A", "Z", "aa", "ab", "abc", "0", "9", " ", "a ", " a", "-", "`", "{", "~", "z" * 50, "[", "@", "!"]


class Shelves(unittest.TestCase):
    """What the tests of shelves with and without a limit share."""

    def assert_raised(self, error, value, call, *arguments):
        with self.assertRaises(error) as caught:
            call(*arguments)
        self.assertIs(type(caught.exception), error)
        self.assertEqual(caught.exception.value, value)

    def assert_on(self, shelf, formulas, story=None):
        """Check what a shelf shows that has these formulas by titles, and this story."""
        self.assertEqual(shelf.titles, sorted(formulas))
        self.assertEqual(len(shelf), len(formulas))
        for title in string.ascii_lowercase:
            if title in formulas:
                self.assertIs(shelf.formula_on(title), formulas[title])
            else:
                self.assert_raised(InvalidName, title, shelf.formula_on, title)
        for formula in (NOTHING, ONE, PAIRS, CANCELS):
            wanted = sorted(title for title in formulas if are_alike(formulas[title], formula))
            self.assertEqual(shelf.alike_on(formula), wanted)
        if story is not None:
            self.assertEqual(shelf.story(), story)
            for call, wanted in zip(shelf.story(), story):
                self.assertIsInstance(call, tuple)
                for thing, wanted_thing in zip(call[2:], wanted[2:]):
                    self.assertIs(thing, wanted_thing)

    def kinds(self):
        """Return an empty shelf of each kind."""
        return [Shelf(), SmallShelf(3), SmallShelf(10 ** 30)]


class Names(Shelves):
    def test_they_are_defined_in_the_file_that_lists_them(self):
        for each in (Shelf, SmallShelf):
            self.assertEqual(each.__module__, "nestsums.shelves")
            self.assertIs(vars(shelves)[each.__name__], each)

    def test_what_is_listed_stands_in_the_classes_themselves(self):
        self.assertIsInstance(vars(Shelf)["titles"], property)
        for name in ("put", "drop", "undo", "formula_on", "alike_on", "story", "__len__", "__eq__", "__init__"):
            self.assertTrue(callable(vars(Shelf)[name]), name)
        for name in ("put", "__init__"):
            self.assertTrue(callable(vars(SmallShelf)[name]), name)
        self.assertTrue(issubclass(SmallShelf, Shelf))

    def test_arguments_may_be_passed_by_name(self):
        for shelf in (Shelf(), SmallShelf(most=1)):
            shelf.put(formula=ONE, title="k")
            shelf.put(title="b", formula=ALIKE_ONE)
            self.assertIs(shelf.formula_on(title="k"), ONE)
            self.assertEqual(shelf.alike_on(formula=ONE), ["b", "k"])
            shelf.drop(title="k")
            self.assertEqual(shelf.titles, ["b"])

    def test_the_titles_cannot_be_assigned(self):
        with self.assertRaises(AttributeError):
            Shelf().titles = ["a"]


class Calls(Shelves):
    def test_nothing_at_first(self):
        for shelf in self.kinds():
            self.assert_on(shelf, {}, [])

    def test_all_titles(self):
        for shelf in self.kinds():
            formulas = {}
            for title in string.ascii_lowercase[::-1]:
                formulas[title] = word_formula([len(formulas)])
                self.assertIsNone(shelf.put(title, formulas[title]))
            self.assert_on(shelf, formulas)
            self.assertEqual(shelf.titles, list(string.ascii_lowercase))

    def test_put_drop_and_undo(self):
        for shelf in self.kinds():
            self.assertIsNone(shelf.put("m", ONE))
            self.assertIsNone(shelf.put("c", PAIRS))
            self.assertIsNone(shelf.drop("m"))
            story = [("put", "m", ONE), ("put", "c", PAIRS), ("drop", "m")]
            self.assert_on(shelf, {"c": PAIRS}, story)
            self.assertIsNone(shelf.undo())
            self.assert_on(shelf, {"c": PAIRS, "m": ONE}, story[:2])
            self.assertIsNone(shelf.undo())
            self.assert_on(shelf, {"m": ONE}, story[:1])
            self.assertIsNone(shelf.undo())
            self.assert_on(shelf, {}, [])
            self.assert_raised(NothingToUndo, 0, shelf.undo)

    def test_a_title_put_again(self):
        for shelf in self.kinds():
            shelf.put("a", ONE)
            shelf.put("b", PAIRS)
            shelf.put("a", CANCELS)
            self.assert_on(shelf, {"a": CANCELS, "b": PAIRS})
            shelf.put("a", CANCELS)
            self.assertEqual(len(shelf.story()), 4)
            shelf.undo()
            self.assert_on(shelf, {"a": CANCELS, "b": PAIRS})
            shelf.undo()
            self.assert_on(shelf, {"a": ONE, "b": PAIRS})
            shelf.undo()
            self.assert_on(shelf, {"a": ONE})

    def test_a_title_dropped_and_put_again(self):
        for shelf in self.kinds():
            shelf.put("a", ONE)
            shelf.drop("a")
            self.assert_on(shelf, {}, [("put", "a", ONE), ("drop", "a")])
            shelf.put("a", PAIRS)
            self.assert_on(shelf, {"a": PAIRS})
            shelf.undo()
            shelf.undo()
            self.assert_on(shelf, {"a": ONE})

    def test_one_formula_under_several_titles(self):
        shelf = Shelf()
        for title in "zay":
            shelf.put(title, ONE)
        shelf.put("b", ALIKE_ONE)
        shelf.put("c", PAIRS)
        self.assertEqual(shelf.alike_on(ONE), ["a", "b", "y", "z"])
        self.assertEqual(shelf.alike_on(Formula([(1, [1]), (0, [])])), ["a", "b", "y", "z"])
        self.assertIs(shelf.formula_on("b"), ALIKE_ONE)

    def test_formulas_stay_as_they_were_passed(self):
        shelf = Shelf()
        shelf.put("a", CANCELS)
        self.assertEqual(shelf.formula_on("a").terms, [(3, [1, 1, 1]), (2, [0]), (-3, [1, 1, 1])])
        self.assertEqual(shelf.alike_on(Formula([(2, [0])])), ["a"])
        shelf.put("b", NOTHING)
        self.assertEqual(shelf.alike_on(Formula([(1, [4]), (-1, [4])])), ["b"])

    def test_mixed_calls_against_a_list_of_all_states(self):
        chance = random.Random(430)
        pool = [NOTHING, ONE, ALIKE_ONE, PAIRS, CANCELS]
        for shelf in [each for _ in range(5) for each in self.kinds()]:
            states, story = [{}], []
            for _ in range(60):
                title = chance.choice("abcde")
                kind = chance.choice(["put", "put", "drop", "undo"])
                if kind == "put":
                    formula = chance.choice(pool)
                    shelf.put(title, formula)
                    states.append({**states[-1], title: formula})
                    story.append(("put", title, formula))
                elif kind == "drop" and title in states[-1]:
                    shelf.drop(title)
                    states.append({each: states[-1][each] for each in states[-1] if each != title})
                    story.append(("drop", title))
                elif kind == "drop":
                    self.assert_raised(InvalidName, title, shelf.drop, title)
                elif story:
                    shelf.undo()
                    states.pop()
                    story.pop()
                else:
                    self.assert_raised(NothingToUndo, 0, shelf.undo)
                self.assert_on(shelf, states[-1], story)


class WrongCalls(Shelves):
    def test_put_under_no_title(self):
        for shelf in self.kinds():
            shelf.put("a", ONE)
            for title in WRONG_TITLES:
                self.assert_raised(InvalidName, title, shelf.put, title, PAIRS)
                self.assert_on(shelf, {"a": ONE}, [("put", "a", ONE)])

    def test_drop_what_is_not_there(self):
        for shelf in self.kinds():
            for title in WRONG_TITLES + ["a", "z"]:
                self.assert_raised(InvalidName, title, shelf.drop, title)
            shelf.put("b", ONE)
            for title in WRONG_TITLES + ["a", "z", "bb", "B"]:
                self.assert_raised(InvalidName, title, shelf.drop, title)
            self.assert_on(shelf, {"b": ONE}, [("put", "b", ONE)])
            shelf.drop("b")
            self.assert_raised(InvalidName, "b", shelf.drop, "b")
            self.assert_on(shelf, {}, [("put", "b", ONE), ("drop", "b")])

    def test_the_formula_on_what_is_not_there(self):
        for shelf in self.kinds():
            shelf.put("b", ONE)
            for title in WRONG_TITLES + ["a", "z", "bb", "B"]:
                self.assert_raised(InvalidName, title, shelf.formula_on, title)
            self.assert_on(shelf, {"b": ONE})

    def test_nothing_to_undo(self):
        for shelf in self.kinds():
            self.assert_raised(NothingToUndo, 0, shelf.undo)
            self.assert_raised(InvalidName, "", shelf.put, "", ONE)
            self.assert_raised(NothingToUndo, 0, shelf.undo)
            shelf.put("a", ONE)
            shelf.undo()
            self.assert_raised(NothingToUndo, 0, shelf.undo)
            self.assert_on(shelf, {}, [])

    def test_a_refused_call_is_not_taken_back(self):
        for shelf in self.kinds():
            shelf.put("a", ONE)
            shelf.put("b", PAIRS)
            self.assert_raised(InvalidName, "c", shelf.drop, "c")
            self.assert_raised(InvalidName, "ab", shelf.put, "ab", ONE)
            shelf.undo()
            self.assert_on(shelf, {"a": ONE}, [("put", "a", ONE)])


class Limits(Shelves):
    def test_a_negative_limit(self):
        for most in (-1, -2, -10 ** 30):
            self.assert_raised(InvalidNumber, most, SmallShelf, most)

    def test_words_up_to_the_limit(self):
        for most in range(6):
            for many in range(7):
                shelf = SmallShelf(most)
                formula = word_formula([2] * many)
                if many <= most:
                    self.assertIsNone(shelf.put("a", formula))
                    self.assert_on(shelf, {"a": formula}, [("put", "a", formula)])
                else:
                    self.assert_raised(TooLong, many, shelf.put, "a", formula)
                    self.assert_on(shelf, {}, [])

    def test_a_limit_of_0(self):
        shelf = SmallShelf(0)
        shelf.put("a", NOTHING)
        shelf.put("b", word_formula([]))
        shelf.put("c", Formula([(5, []), (0, [1, 2])]))
        self.assert_raised(TooLong, 1, shelf.put, "d", ONE)
        self.assertEqual(shelf.titles, ["a", "b", "c"])

    def test_the_longest_word_of_the_plain_formula_counts(self):
        shelf = SmallShelf(1)
        self.assertEqual(length_of(CANCELS), 1)
        shelf.put("a", CANCELS)
        shelf.put("b", Formula([(0, [1, 1, 1, 1])]))
        longer = Formula([(1, [1]), (2, [0, 0, 0]), (1, [1, 1]), (-1, [1, 1]), (4, [])])
        self.assert_raised(TooLong, 3, shelf.put, "c", longer)
        shelf.put("c", Formula(longer.terms + [(-2, [0, 0, 0])]))
        self.assertEqual(shelf.titles, ["a", "b", "c"])

    def test_the_title_comes_first(self):
        shelf = SmallShelf(1)
        for title in WRONG_TITLES:
            self.assert_raised(InvalidName, title, shelf.put, title, PAIRS)
        self.assert_on(shelf, {}, [])

    def test_a_refused_formula_changes_nothing(self):
        shelf, other = SmallShelf(1), SmallShelf(1)
        for each in (shelf, other):
            each.put("a", ONE)
        self.assert_raised(TooLong, 2, shelf.put, "a", PAIRS)
        self.assert_raised(TooLong, 2, shelf.put, "b", PAIRS)
        self.assert_on(shelf, {"a": ONE}, [("put", "a", ONE)])
        self.assertTrue(shelf == other)
        shelf.undo()
        self.assert_on(shelf, {}, [])
        self.assert_raised(NothingToUndo, 0, shelf.undo)


class Equality(Shelves):
    def assert_equal_both_ways(self, one, other, wanted):
        self.assertIs(one == other, wanted)
        self.assertIs(other == one, wanted)
        self.assertIs(one != other, not wanted)
        self.assertIs(other != one, not wanted)

    def filled(self, calls, most=None):
        shelf = Shelf() if most is None else SmallShelf(most)
        for call in calls:
            if call[0] == "put":
                shelf.put(*call[1:])
            else:
                shelf.drop(*call[1:])
        return shelf

    def test_equal_stories(self):
        for most in (None, 2, 9):
            for calls in ([], [("put", "a", ONE)], [("put", "a", ONE), ("put", "b", PAIRS), ("drop", "a")]):
                one = self.filled(calls, most)
                other = self.filled([call[:2] + tuple(Formula(each.terms) for each in call[2:]) for call in calls], most)
                self.assert_equal_both_ways(one, other, True)

    def test_other_stories(self):
        stories = [
            [],
            [("put", "a", ONE)],
            [("put", "b", ONE)],
            [("put", "a", ALIKE_ONE)],
            [("put", "a", PAIRS)],
            [("put", "a", ONE), ("put", "a", ONE)],
            [("put", "a", PAIRS), ("put", "a", ONE)],
            [("put", "a", ONE), ("put", "b", ONE)],
            [("put", "b", ONE), ("put", "a", ONE)],
            [("put", "a", ONE), ("drop", "a")],
            [("put", "a", ONE), ("put", "b", ONE), ("drop", "b")],
        ]
        for place, story in enumerate(stories):
            for other_place, other_story in enumerate(stories):
                self.assert_equal_both_ways(self.filled(story), self.filled(other_story), place == other_place)

    def test_calls_that_are_taken_back_do_not_count(self):
        one, other = self.filled([("put", "a", ONE)]), self.filled([("put", "a", ONE), ("put", "a", PAIRS)])
        self.assert_equal_both_ways(one, other, False)
        other.undo()
        self.assert_equal_both_ways(one, other, True)
        one.undo()
        self.assert_equal_both_ways(one, Shelf(), True)

    def test_refused_calls_do_not_count(self):
        one, other = self.filled([("put", "a", ONE)]), self.filled([("put", "a", ONE)])
        self.assert_raised(InvalidName, "b", one.drop, "b")
        self.assert_raised(InvalidName, "", one.put, "", PAIRS)
        self.assert_equal_both_ways(one, other, True)

    def test_limits(self):
        limits = [None, 0, 1, 5]
        for one in limits:
            for other in limits:
                shelf, other_shelf = self.filled([], one), self.filled([], other)
                self.assert_equal_both_ways(shelf, other_shelf, one == other)
                for each in (shelf, other_shelf):
                    each.put("a", NOTHING)
                self.assert_equal_both_ways(shelf, other_shelf, one == other)

    def test_nothing_else_is_equal(self):
        for shelf in (Shelf(), self.filled([("put", "a", ONE)]), SmallShelf(2)):
            for thing in (shelf.titles, shelf.story(), [], (), {}, 0, 1, "", "a", None, False, ONE):
                self.assert_equal_both_ways(shelf, thing, False)


class Lists(Shelves):
    def test_those_that_are_told_are_new(self):
        for shelf in self.kinds():
            shelf.put("a", ONE)
            shelf.put("b", ALIKE_ONE)
            for told in (shelf.titles, shelf.alike_on(ONE), shelf.story()):
                told.append("c")
                told[0] = "q"
            self.assertIsNot(shelf.titles, shelf.titles)
            self.assertIsNot(shelf.story(), shelf.story())
            self.assert_on(shelf, {"a": ONE, "b": ALIKE_ONE}, [("put", "a", ONE), ("put", "b", ALIKE_ONE)])

    def test_what_was_told_stays(self):
        shelf = Shelf()
        shelf.put("a", ONE)
        titles, story = shelf.titles, shelf.story()
        shelf.put("b", ONE)
        shelf.undo()
        shelf.undo()
        self.assertEqual([titles, story], [["a"], [("put", "a", ONE)]])

    def test_formulas_that_are_passed_stay(self):
        written = [(3, [1, 1]), (0, [2]), (-3, [1, 1]), (1, [0])]
        formula = Formula(copy.deepcopy(written))
        for shelf in self.kinds():
            shelf.put("a", formula)
            shelf.alike_on(formula)
            shelf.drop("a")
            shelf.undo()
            self.assertEqual(formula.terms, written)
            shelf.formula_on("a").terms.clear()
            self.assertEqual(formula.terms, written)

    def test_two_shelves_do_not_meet(self):
        one, other = Shelf(), Shelf()
        one.put("a", ONE)
        self.assert_on(other, {}, [])


if __name__ == "__main__":
    unittest.main()
