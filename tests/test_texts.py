"""Points [3] to [5]: texts of formulas, and back."""

import copy
import random
import re
import unittest
from itertools import product

from nestsums import readings, texts
from nestsums.errors import Unreadable
from nestsums.formulas import Formula, word_formula
from nestsums.readings import read_formula
from nestsums.texts import show_formula

from walks import mixed_formula, words_up_to

NUMBER = r"(?:0|[1-9][0-9]{0,39})"
TERM = rf"(?:0|-?[1-9][0-9]{{0,39}}) \[(?:{NUMBER}(?: {NUMBER})*)?\]"
TEXT = re.compile(rf"none|{TERM}(?:; {TERM})*")
ALL_SIGNS = [chr(code) for code in range(32, 127)]
SOME = [
    "none",
    "0 []",
    "-1 [0]",
    "2 [1 1]; 1 [2]; -1 []",
    "10 [20 3]; -4 [0 0 5]",
    "1 [1]; 1 [1]",
    "-100 [4 0 3 1 2]",
]


class Checks(unittest.TestCase):
    def assert_refused(self, text):
        with self.assertRaises(Unreadable) as caught:
            read_formula(text)
        self.assertIs(type(caught.exception), Unreadable)
        self.assertEqual(caught.exception.value, text)

    def assert_read(self, text):
        """Check that exactly a text that some formula has is read, and as this formula."""
        if TEXT.fullmatch(text):
            told = read_formula(text)
            self.assertIsInstance(told, Formula)
            self.assertEqual(show_formula(told), text)
            return True
        self.assert_refused(text)
        return False


class Names(unittest.TestCase):
    def test_they_are_defined_in_the_files_that_list_them(self):
        self.assertEqual(show_formula.__module__, "nestsums.texts")
        self.assertIs(vars(texts)["show_formula"], show_formula)
        self.assertEqual(read_formula.__module__, "nestsums.readings")
        self.assertIs(vars(readings)["read_formula"], read_formula)

    def test_arguments_may_be_passed_by_name(self):
        self.assertEqual(show_formula(formula=word_formula([1, 2])), "1 [1 2]")
        self.assertEqual(read_formula(text="1 [1 2]"), word_formula([1, 2]))


class Shown(unittest.TestCase):
    def test_texts(self):
        for terms, text in (
            ([], "none"),
            ([(0, [])], "0 []"),
            ([(1, [0])], "1 [0]"),
            ([(-7, [1, 2])], "-7 [1 2]"),
            ([(2, [1, 1]), (1, [2]), (-1, [])], "2 [1 1]; 1 [2]; -1 []"),
            ([(1, [2, 0]), (-2, [1, 1]), (1, [0, 2])], "1 [2 0]; -2 [1 1]; 1 [0 2]"),
            ([(10 ** 6, [4, 0, 3, 1, 2]), (-10 ** 6, [10, 123])], "1000000 [4 0 3 1 2]; -1000000 [10 123]"),
        ):
            self.assertEqual(show_formula(Formula(terms)), text)

    def test_terms_are_shown_as_they_were_passed(self):
        crowded = Formula([(3, [1]), (0, [2]), (-3, [1]), (1, []), (1, [])])
        self.assertEqual(show_formula(crowded), "3 [1]; 0 [2]; -3 [1]; 1 []; 1 []")

    def test_the_formula_stays(self):
        written = [(3, [1, 2]), (0, []), (3, [1, 2])]
        formula = Formula(copy.deepcopy(written))
        show_formula(formula)
        self.assertEqual(formula.terms, written)


class ReadBack(Checks):
    def test_mixed_formulas(self):
        chance = random.Random(440)
        for _ in range(300):
            formula = mixed_formula(chance, 6, 5, 4, chance.choice([1, 20, 10 ** 6, 10 ** 30]))
            text = show_formula(formula)
            self.assertTrue(TEXT.fullmatch(text), text)
            self.assertEqual(read_formula(text), formula)

    def test_all_short_words(self):
        for word in words_up_to(3, [0, 3, 10]):
            for number in (-10, -1, 0, 1, 7):
                formula = Formula([(number, word)])
                self.assertEqual(read_formula(show_formula(formula)), formula)

    def test_texts_of_some_formulas(self):
        for text in SOME:
            self.assertTrue(self.assert_read(text))
        self.assertEqual(read_formula("none").terms, [])
        self.assertEqual(read_formula("0 []").terms, [(0, [])])
        self.assertEqual(read_formula("10 [20 3]; -4 [0 0 5]").terms, [(10, [20, 3]), (-4, [0, 0, 5])])
        self.assertEqual(read_formula("1 [1]; 1 [1]").terms, [(1, [1]), (1, [1])])

    def test_long_texts(self):
        terms = [(-10 ** 29 - place, [place % 5] * 5) for place in range(90)]
        text = show_formula(Formula(terms))
        self.assertGreater(len(text), 3500)
        self.assertEqual(read_formula(text), Formula(terms))

    def test_each_time_a_formula_of_its_own(self):
        first = read_formula("2 [1 1]")
        first.terms[0][1].append(5)
        self.assertEqual(read_formula("2 [1 1]"), Formula([(2, [1, 1])]))


class Digits(Checks):
    def test_integers_of_39_to_41_digits(self):
        for many in (1, 2, 38, 39, 40, 41, 42, 60):
            for digits in ("9" * many, "1" + "0" * (many - 1)):
                for text in (f"{digits} []", f"-{digits} [1]", f"1 [{digits}]", f"1 [0 {digits} 2]", f"1 []; {digits} []"):
                    self.assertEqual(self.assert_read(text), many <= 40, text)

    def test_the_sign_is_no_digit(self):
        number = 10 ** 40 - 1
        self.assertEqual(read_formula(f"-{number} [{number}]"), Formula([(-number, [number])]))

    def test_leading_zeros(self):
        for text in ("01 []", "00 []", "-01 []", "1 [01]", "1 [00]", "1 [1 02]", "000 [1]", "1 [1]; 02 []", "-00 []"):
            self.assert_refused(text)

    def test_0_has_no_sign(self):
        for text in ("-0 []", "-0 [1]", "1 []; -0 []", "1 [-0]"):
            self.assert_refused(text)
        self.assertEqual(read_formula("0 [0]").terms, [(0, [0])])

    def test_letters_have_no_sign(self):
        for text in ("1 [-1]", "1 [1 -2]", "-1 [-1]", "1 [1]; 1 [-1]", "1 [-]", "1 [- 1]", "1 [1-]"):
            self.assert_refused(text)

    def test_other_signs_of_integers(self):
        for text in ("+1 []", "--1 []", "1- []", "- 1 []", "1. []", "1e3 []", "1_0 []", "0x1 []", "a []", "1 [a]",
                     "1 [+1]", "1 [1_0]", "1 [1,2]", "1, []", "- []", " []", "[]", "1 [1.0]", "\u00b2 []", "1 [\u0663]"):
            self.assert_refused(text)


class Refused(Checks):
    def test_texts_of_nothing(self):
        for text in ("", " ", ";", "; ", "None", "NONE", "none ", " none", "nonenone", "none; none", "none; 1 []",
                     "1 []; none", "0", "1", "[]", "[1]", "1[]", "1 [", "1 ]", "1 [1", "1 1]", "1 [1]]", "1 [[1]]",
                     "1 [1] ", " 1 [1]", "1  [1]", "1 [1  2]", "1 [ 1]", "1 [1 ]", "1 [ ]", "1 []; ", "1 [];", "; 1 []",
                     "1 [];1 []", "1 [] ; 1 []", "1 [];  1 []", "1 []; ; 1 []", "1 []1 []", "1 [] 1 []", "1 [1] [2]",
                     "1 (1)", "1 {1}", "1 [1;2]", "1 [1; 2]", "1 [1, 2]", "1 2 [1]", "1 [1]; 2", "1 [1]: 2 []", "1 []\n"):
            self.assert_refused(text)

    def test_all_short_texts_of_the_signs(self):
        found = 0
        for many in range(7):
            for signs in product("01-[] ;", repeat=many):
                found += self.assert_read("".join(signs))
        self.assertGreater(found, 20)

    def test_a_sign_left_out(self):
        for text in SOME:
            for place in range(len(text)):
                self.assert_read(text[:place] + text[place + 1:])

    def test_a_sign_put_in(self):
        for text in SOME:
            for place in range(len(text) + 1):
                for sign in ALL_SIGNS:
                    self.assert_read(text[:place] + sign + text[place:])

    def test_a_sign_exchanged(self):
        for text in SOME:
            for place in range(len(text)):
                for sign in ALL_SIGNS:
                    self.assert_read(text[:place] + sign + text[place + 1:])

    def test_two_signs_exchanged_with_one_another(self):
        for text in SOME:
            for place in range(len(text)):
                for other in range(place + 1, len(text)):
                    signs = list(text)
                    signs[place], signs[other] = signs[other], signs[place]
                    self.assert_read("".join(signs))

    def test_texts_put_together(self):
        for one in SOME:
            for between in ("", " ", ";", "; ", " ; ", ";  "):
                for other in SOME:
                    self.assert_read(one + between + other)

    def test_two_spaces_together_or_one_at_an_end(self):
        for text in SOME:
            for place in range(len(text)):
                if text[place] == " ":
                    self.assert_refused(text[:place] + " " + text[place:])
            self.assert_refused(" " + text)
            self.assert_refused(text + " ")

    def test_a_wrong_text_of_4000_signs(self):
        long_text = "; ".join(["1 [1 2 3 4]"] * 300)
        self.assertLess(len(long_text), 4000)
        self.assertEqual(len(read_formula(long_text).terms), 300)
        for text in ("[" * 4000, " " * 4000, "1" * 4000, "1 [" + "1 " * 1990, long_text + ";", "; " * 2000):
            self.assert_refused(text)


if __name__ == "__main__":
    unittest.main()
