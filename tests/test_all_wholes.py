"""Points [2] to [7]: keepers of keepers, formulas asked again and again, and all files together."""

import random
import unittest

from nestsums.errors import InvalidName, NestError, TooLong, Unreadable
from nestsums.far import far_value
from nestsums.formulas import Formula, word_formula
from nestsums.forms import are_alike, classes, length_of, plain
from nestsums.fundamentals import in_fundamental
from nestsums.identities import identity_parts, side_formula
from nestsums.joins import (
    added,
    begun,
    cuts,
    ended,
    moved,
    product,
    repeated,
    scaled,
    stretched,
    turned,
)
from nestsums.keepers import Keeper, ShortKeeper, keeper, parting_behind, shares_in, step_rules
from nestsums.orders import in_power_sums, is_orderless, sees_zeros
from nestsums.parting import on_kind, parting, parting_among
from nestsums.readings import read_formula
from nestsums.relations import mixture, relations
from nestsums.shelves import Shelf, SmallShelf
from nestsums.texts import show_formula

from reckoning import kin_of
from walks import mixed_formula, orderless_formula

NOTHING = Formula([])
ROWS = [[], [2], [1, 3], [0, -1, 2]]


def formulas(seed, many, most_letters=3):
    """Return mixed formulas and those at the edges."""
    chance = random.Random(seed)
    mixed = [mixed_formula(chance, 4, most_letters, 3) for _ in range(many)]
    return mixed + [NOTHING, word_formula([]), Formula([(2, [1]), (-2, [1]), (6, [0, 3])])]


def lists_of(seed, many):
    """Return lists of one to four such formulas."""
    chance = random.Random(seed)
    pool = formulas(seed, 12)
    return [[chance.choice(pool) for _ in range(chance.randint(1, 4))] for _ in range(many)]


def rewritten(formula, chance):
    """Return an alike formula with parts of terms, terms that cancel, and all in another sequence."""
    terms = []
    for coefficient, word in formula.terms:
        part = chance.randint(-5, 5)
        terms.extend([(part, word), (coefficient - part, word)])
    terms.extend([(7, [4, 2]), (-7, [4, 2]), (0, [1])])
    chance.shuffle(terms)
    return Formula(terms)


def told_values(values):
    """Return formulas in what was told as their terms, so that all can be compared."""
    if isinstance(values, Formula):
        return ("terms", values.terms)
    if isinstance(values, (list, tuple)):
        return [told_values(each) for each in values]
    return values


class KeepersOfKeepers(unittest.TestCase):
    def test_a_keeper_is_its_own_keeper(self):
        for several in lists_of(500, 25):
            kept = keeper(several)
            self.assertEqual(keeper(kept), kept)
            many = len(kept)
            ones = [[int(place == other) for other in range(many)] for place in range(many)]
            self.assertEqual(shares_in(kept), ones)
            self.assertEqual(step_rules(kept), step_rules(several))

    def test_formulas_and_their_keeper_together(self):
        for several in lists_of(501, 20):
            kept = keeper(several)
            self.assertEqual(keeper(several + kept), kept)
            self.assertEqual(keeper(kept + several), kept)
            self.assertEqual(shares_in(several + kept)[:len(several)], shares_in(several))

    def test_in_another_sequence(self):
        chance = random.Random(502)
        for several in lists_of(503, 20):
            order = list(range(len(several)))
            chance.shuffle(order)
            mixed = [several[place] for place in order]
            self.assertEqual(keeper(mixed), keeper(several))
            self.assertEqual(step_rules(mixed), step_rules(several))
            shares = shares_in(several)
            self.assertEqual(shares_in(mixed), [shares[place] for place in order])

    def test_written_otherwise(self):
        chance = random.Random(504)
        for several in lists_of(505, 20):
            other = [rewritten(each, chance) for each in several]
            for each in (keeper, shares_in, step_rules):
                self.assertEqual(each(other), each(several))
                self.assertEqual(each([plain(one) for one in several]), each(several))

    def test_twice(self):
        for several in lists_of(506, 20):
            self.assertEqual(keeper(several + several), keeper(several))
            self.assertEqual(shares_in(several + several), shares_in(several) * 2)

    def test_with_sums_and_derivatives_beside(self):
        chance = random.Random(507)
        for several in lists_of(508, 20):
            total = NOTHING
            for each in several:
                total = added(total, scaled(each, chance.randint(-9, 9)))
            kin = [Formula([(c, list(word)) for word, c in each.items()]) for each in kin_of(several)]
            self.assertEqual(keeper(several + [total]), keeper(several))
            self.assertEqual(keeper(several + kin), keeper(several))
            self.assertEqual(keeper([total] + kin[::-1]), keeper(several))
            rows = [ended(each, [number]) for each in several for number in (-1, 2)]
            self.assertEqual(keeper(several + rows), keeper(several))

    def test_multiples_have_another_keeper(self):
        for several in lists_of(509, 20):
            tripled = [scaled(each, 3) for each in several]
            self.assertEqual(keeper(tripled), [scaled(each, 3) for each in keeper(several)])
            self.assertEqual(shares_in(tripled), shares_in(several))
            self.assertEqual(step_rules(tripled), step_rules(several))

    def test_kept_numbers_of_keepers(self):
        for several in lists_of(510, 12):
            one, other = Keeper(several), Keeper(keeper(several))
            for row in ROWS:
                one.take_row(row)
                other.take_row(row)
                self.assertEqual(one.numbers, other.numbers)
                self.assertEqual(other.told, other.numbers)


class AskedBefore(unittest.TestCase):
    """Whatever was asked of a formula before, its answers are those of a formula made anew."""

    def questions(self):
        small = word_formula([1])
        side = [(2, [[1], [0]]), (-1, [[2]])]
        blocks = [([2, -1], 5), ([([1, 3], 10 ** 30)], 2)]
        return [
            lambda f: f.terms,
            lambda f: f.value_on([3, 1, 2]),
            lambda f: f == small,
            plain,
            lambda f: are_alike(f, small),
            length_of,
            lambda f: classes([f, small, f]),
            lambda f: parting(f, small),
            lambda f: on_kind(f, "signs"),
            lambda f: parting_among(small, f, "bits"),
            lambda f: identity_parts([(c, [word]) for c, word in f.terms[:4]], side),
            lambda f: added(f, f),
            lambda f: scaled(f, -3),
            lambda f: product(f, small),
            turned,
            lambda f: stretched(f, 2),
            lambda f: moved(f, -1),
            lambda f: begun(f, [2, 3]),
            lambda f: ended(f, [2, 3]),
            lambda f: repeated(f, 3),
            cuts,
            lambda f: far_value(f, blocks),
            lambda f: keeper([f, small]),
            lambda f: shares_in([small, f]),
            lambda f: step_rules([f]),
            lambda f: parting_behind(f, [1, 2], [2, 1]),
            lambda f: self.grown(Keeper([f, small])),
            lambda f: self.grown(ShortKeeper([f], 9)),
            is_orderless,
            sees_zeros,
            in_power_sums,
            in_fundamental,
            lambda f: relations([f, small, f]),
            lambda f: mixture(f, [small, f]),
            lambda f: self.filled(Shelf(), f),
            lambda f: self.filled(SmallShelf(9), f),
            show_formula,
            lambda f: read_formula(show_formula(f)),
        ]

    def grown(self, kept):
        kept.take_row([2, -1])
        kept.take(3)
        before = [kept.numbers, kept.told, len(kept)]
        kept.undo()
        return [before, kept.numbers, kept.told, len(kept)]

    def filled(self, shelf, formula):
        shelf.put("b", formula)
        shelf.put("a", formula)
        shelf.drop("b")
        shelf.undo()
        return [shelf.titles, shelf.alike_on(formula), shelf.formula_on("a"), shelf.story(), len(shelf)]

    def test_each_question_behind_all_others(self):
        chance = random.Random(520)
        questions = self.questions()
        for formula in formulas(521, 8) + [orderless_formula(chance, 2, 2, 2) for _ in range(3)]:
            anew = [told_values(ask(Formula(formula.terms))) for ask in questions]
            for _ in range(2):
                order = list(range(len(questions)))
                chance.shuffle(order)
                for place in order:
                    self.assertEqual(told_values(questions[place](formula)), anew[place], place)

    def test_a_formula_that_was_told(self):
        # One that a function returned answers as one that is made of its terms.
        chance = random.Random(522)
        questions = self.questions()
        for formula in formulas(523, 3, 2):
            for told in (plain(formula), moved(formula, 2), turned(formula), read_formula(show_formula(formula))):
                for ask in chance.sample(questions, 12):
                    self.assertEqual(told_values(ask(told)), told_values(ask(Formula(told.terms))))

    def test_behind_calls_that_were_refused(self):
        for formula in formulas(524, 6):
            written = formula.terms
            with self.assertRaises(InvalidName):
                Shelf().put("A", formula)
            with self.assertRaises(NestError):
                repeated(formula, -1)
            with self.assertRaises(NestError):
                on_kind(formula, "odd")
            with self.assertRaises(NestError):
                ShortKeeper([formula], -1)
            self.assertEqual(formula.terms, written)
            self.assertEqual(keeper([formula]), keeper([Formula(written)]))


class AllTogether(unittest.TestCase):
    def test_texts_of_plain_formulas_are_equal_exactly_for_alike_ones(self):
        chance = random.Random(530)
        pool = formulas(531, 8, 1)
        pool = pool + [rewritten(each, chance) for each in pool]
        for one in pool:
            for other in pool:
                same = show_formula(plain(one)) == show_formula(plain(other))
                self.assertEqual(same, are_alike(one, other))
                self.assertEqual(show_formula(one) == show_formula(other), one == other)

    def test_formulas_read_from_texts_are_on_shelves_what_they_were(self):
        shelf, read = Shelf(), Shelf()
        pool = formulas(532, 10)
        for title, formula in zip("qwertyuiopasd", pool):
            shelf.put(title, formula)
            read.put(title, read_formula(show_formula(formula)))
        self.assertTrue(shelf == read)
        for formula in pool:
            self.assertEqual(shelf.alike_on(formula), read.alike_on(read_formula(show_formula(formula))))

    def test_shelves_tell_classes(self):
        chance = random.Random(533)
        for several in lists_of(534, 20):
            several = several + [rewritten(chance.choice(several), chance)]
            shelf = Shelf()
            for title, formula in zip("abcde", several):
                shelf.put(title, formula)
            for members in classes(several):
                wanted = ["abcde"[place] for place in members]
                self.assertEqual(shelf.alike_on(several[members[0]]), wanted)
                self.assertEqual(shelf.alike_on(plain(several[members[-1]])), wanted)

    def test_a_story_told_again_makes_an_equal_shelf(self):
        chance = random.Random(535)
        pool = formulas(536, 6)
        for most in (None, 3):
            shelf = Shelf() if most is None else SmallShelf(most)
            again = Shelf() if most is None else SmallShelf(most)
            for _ in range(40):
                title = chance.choice("abc")
                if chance.random() < 0.7:
                    shelf.put(title, chance.choice(pool))
                elif title in shelf.titles:
                    shelf.drop(title)
            for call in shelf.story():
                if call[0] == "put":
                    again.put(call[1], call[2])
                else:
                    again.drop(call[1])
            self.assertTrue(again == shelf)
            self.assertEqual(again.titles, shelf.titles)
            self.assertEqual([again.formula_on(each) for each in again.titles],
                             [shelf.formula_on(each) for each in shelf.titles])

    def test_small_shelves_go_by_the_length_of_plain_formulas(self):
        for formula in formulas(537, 20):
            for most in range(4):
                shelf = SmallShelf(most)
                if length_of(formula) <= most:
                    shelf.put("a", formula)
                    self.assertEqual(shelf.titles, ["a"])
                else:
                    with self.assertRaises(TooLong) as caught:
                        shelf.put("a", formula)
                    self.assertEqual(caught.exception.value, length_of(formula))

    def test_keepers_of_formulas_on_shelves_and_in_texts(self):
        for several in lists_of(538, 15):
            shelf = Shelf()
            for title, formula in zip("abcd", several):
                shelf.put(title, read_formula(show_formula(formula)))
            put = [shelf.formula_on(title) for title in shelf.titles]
            self.assertTrue(Keeper(put) == Keeper(several))
            self.assertEqual(keeper(put), keeper(several))
            kept, plain_kept = Keeper(put), Keeper([plain(each) for each in several])
            for row in ROWS:
                kept.take_row(row)
                plain_kept.take_row(row)
                self.assertEqual([kept.numbers, kept.told], [plain_kept.numbers, plain_kept.told])

    def test_keepers_put_on_a_shelf(self):
        for several in lists_of(539, 15):
            kept = keeper(several)[:26]
            shelf = Shelf()
            for title, formula in zip("abcdefghijklmnopqrstuvwxyz", kept):
                shelf.put(title, formula)
            # No two of a keeper's formulas are alike.
            for title, formula in zip(shelf.titles, kept):
                self.assertEqual(shelf.alike_on(formula), [title])
                self.assertEqual(read_formula(show_formula(formula)), formula)
                self.assertEqual(plain(formula), formula)

    def test_sides_texts_and_mixtures(self):
        chance = random.Random(540)
        for _ in range(20):
            side = [(chance.randint(-4, 4), [[chance.randint(0, 3)] for _ in range(chance.randint(0, 2))])
                    for _ in range(4)]
            formula = read_formula(show_formula(side_formula(side)))
            self.assertEqual(formula, side_formula(side))
            parts = [word_formula(word) for _, word in formula.terms]
            self.assertEqual(mixture(formula, parts), [coefficient for coefficient, _ in formula.terms])
            self.assertEqual(relations(parts), [])

    def test_texts_that_no_formula_has_stop_nothing(self):
        shelf = Shelf()
        shelf.put("a", word_formula([1]))
        with self.assertRaises(Unreadable):
            shelf.put("b", read_formula("1 [1"))
        self.assertEqual(shelf.titles, ["a"])


if __name__ == "__main__":
    unittest.main()
