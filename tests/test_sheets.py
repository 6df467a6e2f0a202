"""phialhouse.sheets: promise 3.3."""

import random
import unittest
from fractions import Fraction

from phialhouse.looker import looked
from phialhouse.meaning import made, puts
from phialhouse.reader import read_book
from phialhouse.sheets import sheet, wares_put
from samples import as_amount, as_fraction, frozen, plain_puts, some_let_by, spoil


def book_of(*lines):
    return read_book("\n".join(("ware a", "ware b", "ware c") + lines))


def plain_sheet(book, recipe, asked):
    """The needs by walking down every way by itself."""
    needs = {}

    def ask(name, many):
        needs[name] = needs.get(name, 0) + many
        written = plain_puts(dict(book[2])[name])
        bowl = sum([part for place, thing, part in written])
        for place, thing, part in written:
            if thing not in book[0]:
                ask(thing, part * many / bowl)
    ask(recipe, as_fraction(asked))
    return needs


class TestSheet(unittest.TestCase):
    def test_a_recipe_of_wares(self):
        book = book_of("recipe x: take 1 of b; take 3 of a", "recipe y: take 1 of c")
        self.assertEqual(sheet(book, "x", (8, 1)), [("x", (8, 1), [(0, "b", (2, 1)), (1, "a", (6, 1))])])

    def test_a_recipe_that_several_need_stands_once(self):
        book = book_of("recipe top: take 1 of mid; take 1 of low; take 2 of other", "recipe low: take 1 of a",
                       "recipe other: take 1 of low; take 1 of mid", "recipe mid: take 1 of low; take 1 of b")
        self.assertEqual(looked(book), ["low", "mid", "other", "top"])
        self.assertEqual(sheet(book, "top", (8, 1)), [
            ("top", (8, 1), [(0, "mid", (2, 1)), (1, "low", (2, 1)), (2, "other", (4, 1))]),
            ("other", (4, 1), [(0, "low", (2, 1)), (1, "mid", (2, 1))]),
            ("mid", (4, 1), [(0, "low", (2, 1)), (1, "b", (2, 1))]),
            ("low", (6, 1), [(0, "a", (6, 1))]),
        ])
        self.assertEqual(wares_put(book, sheet(book, "top", (8, 1))), (("a", (6, 1)), ("b", (2, 1))))

    def test_a_recipe_put_twice_by_one(self):
        book = book_of("recipe x: take 1 of y; parts 2: 1 y, 1 a; 1 to one of y", "recipe y: take 4 of b")
        self.assertEqual(sheet(book, "x", (6, 1)), [
            ("x", (6, 1), [(0, "y", (1, 1)), (1, "y", (1, 1)), (1, "a", (1, 1)), (2, "y", (3, 1))]),
            ("y", (5, 1), [(0, "b", (5, 1))]),
        ])

    def test_what_is_not_put_is_not_there(self):
        book = book_of("recipe x: take 1 of y; fill 1 with z", "recipe y: take 4 of b", "recipe z: take 1 of v",
                       "recipe v: take 1 of a")
        self.assertEqual(sheet(book, "x", (3, 1)), [("x", (3, 1), [(0, "y", (3, 1))]), ("y", (3, 1), [(0, "b", (3, 1))])])

    def test_recipes_beside_and_above_are_not_there(self):
        book = book_of("recipe x: take 1 of y", "recipe y: take 4 of b", "recipe z: take 1 of x")
        self.assertEqual([row[0] for row in sheet(book, "y", (1, 1))], ["y"])
        self.assertEqual([row[0] for row in sheet(book, "x", (1, 1))], ["x", "y"])
        self.assertEqual([row[0] for row in sheet(book, "z", (1, 1))], ["z", "x", "y"])

    def test_many_books(self):
        source = random.Random(61)
        for turn in range(80):
            book = some_let_by(source, most_recipes=7, most_rows=3)
            for name, rows in book[2]:
                asked = as_amount(Fraction(source.randrange(1, 10 ** 60), source.randrange(1, 10 ** 60)))
                told = sheet(book, name, asked)
                needs = plain_sheet(book, name, asked)
                self.assertEqual([row[0] for row in told], [one for one in reversed(looked(book)) if one in needs])
                self.assertEqual(told[0][:2], (name, asked))
                for recipe, need, own_puts in told:
                    self.assertEqual(need, as_amount(needs[recipe]))
                    self.assertEqual(own_puts, puts(book, recipe, need))
                self.assertEqual(wares_put(book, told), made(book, name, asked))


class TestWaresPut(unittest.TestCase):
    def test_of_an_empty_sheet(self):
        self.assertEqual(wares_put(book_of(), []), ())

    def test_wares_alone_count(self):
        book = book_of("recipe y: take 4 of b")
        listed = [("x", (6, 1), [(0, "y", (1, 1)), (1, "a", (1, 2)), (2, "a", (1, 3))]), ("y", (5, 1), [(0, "b", (5, 1))])]
        before = frozen(listed)
        self.assertEqual(wares_put(book, listed), (("a", (5, 6)), ("b", (5, 1))))
        self.assertEqual(frozen(listed), before)


class TestNothingIsChanged(unittest.TestCase):
    def test_the_book_and_what_was_told(self):
        source = random.Random(62)
        for turn in range(20):
            book = some_let_by(source)
            before = frozen(book)
            for name, rows in book[2]:
                first = sheet(book, name, (3, 7))
                told = frozen(first)
                spoil(first)
                self.assertEqual(frozen(sheet(book, name, (3, 7))), told)
            self.assertEqual(frozen(book), before)

    def test_the_kinds(self):
        told = sheet(book_of("recipe x: take 1 of b; take 3 of a"), "x", (8, 1))
        self.assertEqual((type(told), type(told[0]), type(told[0][2]), type(told[0][2][0])), (list, tuple, list, tuple))


if __name__ == "__main__":
    unittest.main()
