"""phialhouse.meaning: promises 3.1 and 3.2."""

import random
import unittest
from fractions import Fraction

from phialhouse.meaning import bowl, made, puts
from phialhouse.mixtures import mixture, together
from phialhouse.reader import read_book
from samples import (as_amount, as_fraction, as_mixture, frozen, plain_bowl, plain_made, plain_puts, some_let_by, spoil)

LARGE = (10 ** 60 - 1, 10 ** 59 + 9)


def book_of(*lines):
    return read_book("\n".join(("ware a", "ware b", "ware c") + lines))


def some_asked(source):
    most = 10 ** source.choice([1, 2, 9, 60])
    return as_amount(Fraction(source.randrange(1, most), source.randrange(1, most)))


def figures(thing):
    if isinstance(thing, int):
        return len(str(thing))
    return 0 if isinstance(thing, str) else max([figures(part) for part in thing], default=0)


class TestBowl(unittest.TestCase):
    def bowl_is(self, rows, told):
        with self.subTest(rows):
            self.assertEqual(bowl(book_of(f"recipe x: {rows}"), "x"), told)

    def test_each_kind_of_row(self):
        self.bowl_is("take 3/2 of b", (("b", (3, 2)),))
        self.bowl_is("parts 6: 1 b, 2 a", (("a", (4, 1)), ("b", (2, 1))))
        self.bowl_is("parts 1: 3 b, 4 b", (("b", (1, 1)),))
        self.bowl_is("fill 7 with c", (("c", (7, 1)),))
        self.bowl_is("take 2 of a; 3 to one of b", (("a", (2, 1)), ("b", (6, 1))))

    def test_one_behind_another(self):
        self.bowl_is("take 1/2 of a; fill 2 with b", (("a", (1, 2)), ("b", (3, 2))))
        self.bowl_is("parts 1: 1 a, 1 b; 1 to one of c; fill 3 with a; take 1 of c",
                     (("a", (3, 2)), ("b", (1, 2)), ("c", (2, 1))))
        self.bowl_is("take 1 of a; 1 to one of b; 2 to one of a", (("a", (5, 1)), ("b", (1, 1))))
        self.bowl_is("fill 1 with a; fill 3 with b; fill 6 with c", (("a", (1, 1)), ("b", (2, 1)), ("c", (3, 1))))

    def test_a_fill_that_lacks_nothing(self):
        self.bowl_is("take 2 of a; fill 2 with b", (("a", (2, 1)),))
        self.bowl_is("take 2 of a; fill 2 with b; 1 to one of c", (("a", (2, 1)), ("c", (2, 1))))

    def test_things_that_are_recipes(self):
        book = book_of("recipe y: take 2 of x; 1 to one of a", "recipe x: take 3 of b; take 1 of a",
                       "recipe z: take 1 of c; fill 3 with y; parts 4: 1 x, 3 c")
        self.assertEqual(bowl(book, "x"), (("a", (1, 1)), ("b", (3, 1))))
        self.assertEqual(bowl(book, "y"), (("a", (5, 2)), ("b", (3, 2))))
        self.assertEqual(bowl(book, "z"), (("a", (3, 2)), ("b", (3, 2)), ("c", (4, 1))))

    def test_to_with_a_recipe(self):
        book = book_of("recipe x: take 3 of b; take 1 of a", "recipe y: take 1 of c; 8 to one of x")
        self.assertEqual(bowl(book, "y"), (("a", (2, 1)), ("b", (6, 1)), ("c", (1, 1))))

    def test_many_books(self):
        source = random.Random(51)
        for turn in range(80):
            book = some_let_by(source)
            for name, rows in book[2]:
                self.assertEqual(bowl(book, name), as_mixture(plain_bowl(book, name)))


class TestMade(unittest.TestCase):
    def setUp(self):
        self.book = book_of("recipe y: take 2 of x; 1 to one of a", "recipe x: take 3 of b; take 1 of a")

    def test_of_a_ware(self):
        self.assertEqual(made(self.book, "b", (7, 3)), (("b", (7, 3)),))

    def test_of_recipes(self):
        self.assertEqual(made(self.book, "x", (1, 1)), (("a", (1, 4)), ("b", (3, 4))))
        self.assertEqual(made(self.book, "y", (8, 1)), (("a", (5, 1)), ("b", (3, 1))))
        self.assertEqual(made(self.book, "y", (1, 3)), (("a", (5, 24)), ("b", (1, 8))))

    def test_of_nought(self):
        for thing in ("a", "x", "y"):
            self.assertEqual(made(self.book, thing, (0, 1)), ())

    def test_many_books(self):
        source = random.Random(52)
        for turn in range(60):
            book = some_let_by(source)
            for name in [name for name, rows in book[2]] + [book[0][0]]:
                asked = some_asked(source)
                self.assertEqual(made(book, name, asked), as_mixture(plain_made(book, name, as_fraction(asked))))
                self.assertEqual(made(book, name, (0, 1)), ())


class TestPuts(unittest.TestCase):
    def puts_are(self, rows, asked, told):
        with self.subTest(rows):
            self.assertEqual(puts(book_of("recipe y: take 9 of a; take 1 of b", f"recipe x: {rows}"), "x", asked), told)

    def test_in_order_with_their_places(self):
        self.puts_are("take 1 of b; take 3 of a", (8, 1), [(0, "b", (2, 1)), (1, "a", (6, 1))])
        self.puts_are("take 1 of b; take 2 of b; take 1 of y", (1, 1),
                      [(0, "b", (1, 4)), (1, "b", (1, 2)), (2, "y", (1, 4))])
        self.puts_are("take 1 of b; 3 to one of y", (2, 1), [(0, "b", (1, 2)), (1, "y", (3, 2))])
        self.puts_are("take 1 of b; fill 5 with c", (5, 1), [(0, "b", (1, 1)), (1, "c", (4, 1))])

    def test_of_parts_each_pairs_share(self):
        self.puts_are("parts 3: 1 c, 2 a; take 1 of b; parts 2: 1 y, 1 y", (6, 1),
                      [(0, "c", (1, 1)), (0, "a", (2, 1)), (1, "b", (1, 1)), (2, "y", (1, 1)), (2, "y", (1, 1))])

    def test_a_fill_that_lacks_nothing_has_no_put(self):
        self.puts_are("take 1 of b; fill 1 with c; take 1 of a", (2, 1), [(0, "b", (1, 1)), (2, "a", (1, 1))])
        self.puts_are("fill 1 with c; fill 1 with a; fill 1 with b", (2, 1), [(0, "c", (2, 1))])

    def test_large_amounts(self):
        top, bottom = LARGE
        self.puts_are("take 1 of b; take 2 of y", LARGE,
                      [(0, "b", as_amount(Fraction(top, 3 * bottom))), (1, "y", as_amount(Fraction(2 * top, 3 * bottom)))])

    def test_many_books(self):
        source = random.Random(53)
        for turn in range(60):
            book = some_let_by(source)
            for name, rows in book[2]:
                asked = some_asked(source)
                told = puts(book, name, asked)
                written = plain_puts(rows)
                share = as_fraction(asked) / sum([many for place, thing, many in written])
                self.assertEqual(told, [(place, thing, as_amount(many * share)) for place, thing, many in written])
                self.assertEqual(as_amount(sum([as_fraction(many) for place, thing, many in told])), asked)
                mixed = ()
                for place, thing, many in told:
                    mixed = together(mixed, made(book, thing, many))
                self.assertEqual(mixed, made(book, name, asked))


class TestAtTheBounds(unittest.TestCase):
    def test_a_book_of_large_numbers(self):
        source = random.Random(54)
        wares = ["w" + sign for sign in "abcdefghijklmnopqrst"]
        names = ["r" + sign for sign in "abcdefghijkl"]
        recipes = []
        for place, name in enumerate(names):
            rows = []
            for number in range(6):
                things = names[:place] * 4 + wares
                pairs = [(source.randrange(900, 1001), source.choice(things)) for turn in range(4)]
                many = as_amount(Fraction(source.randrange(10 ** 8, 10 ** 9), source.randrange(10 ** 8, 10 ** 9)))
                rows.append(("parts", many, tuple(pairs)))
            recipes.append((name, tuple(rows)))
        book = (tuple(wares), (), tuple(recipes))
        for asked in (LARGE, (1, 10 ** 60 - 1)):
            told = made(book, "rl", asked)
            self.assertEqual(told, as_mixture(plain_made(book, "rl", as_fraction(asked))))
            self.assertLessEqual(figures(told), 2000)
        self.assertEqual(bowl(book, "rl"), as_mixture(plain_bowl(book, "rl")))


class TestNothingIsChanged(unittest.TestCase):
    def test_the_book_and_what_was_told(self):
        source = random.Random(55)
        for turn in range(20):
            book = some_let_by(source)
            before = frozen(book)
            for name, rows in book[2]:
                asked = some_asked(source)
                first = puts(book, name, asked)
                told = frozen(first)
                spoil(first)
                self.assertEqual(frozen(puts(book, name, asked)), told)
                self.assertEqual(bowl(book, name), bowl(book, name))
            self.assertEqual(frozen(book), before)

    def test_mixtures_are_tuples_through_and_through(self):
        book = book_of("recipe x: take 3 of b; take 1 of a")
        self.assertEqual(bowl(book, "x"), mixture([("b", (3, 1)), ("a", (1, 1))]))
        for told in (bowl(book, "x"), made(book, "x", (1, 2)), made(book, "a", (1, 2))):
            self.assertIs(type(told), tuple)
            self.assertEqual({type(pair) for pair in told}, {tuple})


if __name__ == "__main__":
    unittest.main()
