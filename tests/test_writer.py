"""phialhouse.writer: promises 2.1 and 2.2, as far as they speak of writing."""

import random
import unittest

from phialhouse.reader import read_book
from phialhouse.writer import shown_book
from samples import numbered, some_book, some_let_by, written

BOUNDS_ROW = ("parts", (999999999, 999999998), ((1000, "abcdefgh"), (1, "stuvwxyz"), (1000, "a"), (999, "b")))
BOUNDS_RECIPE = ("ijklmnop", (("take", (1, 999999999), "stuvwxyz"), BOUNDS_ROW, BOUNDS_ROW, BOUNDS_ROW,
                              ("fill", (999999999, 1), "zzzzzzzz"), ("to", 1000, "zzzzzzzz")))
BOUNDS_BOOK = (("abcdefgh",) * 20, (("abcdefgh", "stuvwxyz"),) * 30, (BOUNDS_RECIPE,) * 12)


class TestShown(unittest.TestCase):
    def is_text(self, book, lines):
        with self.subTest(lines[-1]):
            self.assertEqual(shown_book(book), "\n".join(lines))
            self.assertEqual(read_book(shown_book(book)), book)

    def test_all_four_kinds_of_rows(self):
        self.is_text((("water", "salt", "acid", "lye"), (("acid", "lye"), ("salt", "acid")),
                      (("brine", (("take", (1, 2), "salt"), ("fill", (10, 1), "water"))),
                       ("paste", (("parts", (3, 1), ((1, "salt"), (2, "brine"))), ("to", 4, "water"),
                                  ("take", (7, 3), "acid"))))),
                     ["ware water", "ware salt", "ware acid", "ware lye", "apart acid lye", "apart salt acid",
                      "recipe brine: take 1/2 of salt; fill 10 with water",
                      "recipe paste: parts 3: 1 salt, 2 brine; 4 to one of water; take 7/3 of acid"])

    def test_each_kind_alone(self):
        self.is_text((("a",), (), (("x", (("take", (2, 1), "a"),)),)), ["ware a", "recipe x: take 2 of a"])
        self.is_text((("a",), (), (("x", (("fill", (2, 3), "a"),)),)), ["ware a", "recipe x: fill 2/3 with a"])
        self.is_text((("a",), (), (("x", (("parts", (1, 1), ((7, "a"),)),)),)), ["ware a", "recipe x: parts 1: 7 a"])
        self.is_text((("a",), (), (("x", (("take", (1, 1), "a"), ("to", 12, "a"))),)),
                     ["ware a", "recipe x: take 1 of a; 12 to one of a"])

    def test_without_pairs_and_without_recipes(self):
        self.is_text((("water",), (), ()), ["ware water"])
        self.is_text((("b", "a"), (), ()), ["ware b", "ware a"])
        self.is_text((("b", "a"), (("b", "a"),), ()), ["ware b", "ware a", "apart b a"])
        self.is_text((("b",), (), (("z", (("take", (1, 1), "b"),)), ("y", (("take", (1, 1), "z"),)))),
                     ["ware b", "recipe z: take 1 of b", "recipe y: take 1 of z"])

    def test_the_books_order_stays(self):
        names = [numbered(number) for number in range(20)]
        random.Random(31).shuffle(names)
        pairs = [(names[number], names[(7 * number + 1) % 20]) for number in range(20)]
        recipes = [(name, (("take", (1, 1), "q"),)) for name in names[:12]]
        self.is_text((tuple(names), tuple(pairs), tuple(recipes)),
                     ["ware " + name for name in names] + [f"apart {one} {other}" for one, other in pairs]
                     + [f"recipe {name}: take 1 of q" for name in names[:12]])

    def test_names_that_are_told_nowhere_or_twice(self):
        self.is_text((("a", "a"), (("b", "b"), ("b", "b")), (("a", (("take", (1, 1), "q"),)),
                                                             ("a", (("take", (1, 1), "a"), ("fill", (1, 1), "z"))))),
                     ["ware a", "ware a", "apart b b", "apart b b", "recipe a: take 1 of q",
                      "recipe a: take 1 of a; fill 1 with z"])

    def test_at_the_bounds(self):
        row = "parts 999999999/999999998: 1000 abcdefgh, 1 stuvwxyz, 1000 a, 999 b"
        recipe = (f"recipe ijklmnop: take 1/999999999 of stuvwxyz; {row}; {row}; {row}; fill 999999999 with zzzzzzzz; "
                  "1000 to one of zzzzzzzz")
        self.is_text(BOUNDS_BOOK, ["ware abcdefgh"] * 20 + ["apart abcdefgh stuvwxyz"] * 30 + [recipe] * 12)

    def test_many_books(self):
        source = random.Random(32)
        for turn in range(150):
            for book in (some_book(source), some_let_by(source)):
                self.assertEqual(shown_book(book), written(book))
                self.assertEqual(read_book(shown_book(book)), book)


if __name__ == "__main__":
    unittest.main()
