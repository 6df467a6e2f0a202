"""phialhouse.trees: promise 3.4."""

import random
import unittest
from fractions import Fraction

from phialhouse.errors import TooLarge
from phialhouse.meaning import made, puts
from phialhouse.mixtures import mixture
from phialhouse.reader import read_book
from phialhouse.trees import leaves, size_of, tree
from samples import as_amount, frozen, some_let_by, spoil


def book_of(*lines):
    return read_book("\n".join(("ware a", "ware b", "ware c") + lines))


def counted(one):
    return 1 if one[0] == "ware" else 1 + sum([counted(part) for part in one[3]])


SMALL = book_of("recipe y: take 2 of x; fill 2 with c; 1 to one of a", "recipe x: take 3 of b; take 1 of a",
                "recipe z: parts 4: 1 y, 1 y, 1 x, 1 c")


def recipe_of(name, things):
    rows = ["parts 1: " + ", ".join(["1 " + thing for thing in things[place:place + 4]]) for place in range(0, len(things), 4)]
    return f"recipe {name}: " + "; ".join(rows)


def large_book(times):
    names = "klmnopqrstuv"
    lines = ["recipe k: take 1 of a"]
    lines += [f"recipe {name}: " + "; ".join([f"take 1 of {under}"] * times) for under, name in zip(names, names[1:])]
    return book_of(*lines)


class TestTree(unittest.TestCase):
    def test_of_a_ware(self):
        self.assertEqual(tree(SMALL, "b", (7, 3)), ("ware", "b", (7, 3)))

    def test_of_a_recipe_of_wares(self):
        self.assertEqual(tree(SMALL, "x", (2, 1)), ("recipe", "x", (2, 1), (("ware", "b", (3, 2)), ("ware", "a", (1, 2)))))

    def test_of_recipes_within_recipes(self):
        x_part = ("recipe", "x", (1, 2), (("ware", "b", (3, 8)), ("ware", "a", (1, 8))))
        y_part = ("recipe", "y", (1, 1), (x_part, ("ware", "a", (1, 2))))
        self.assertEqual(tree(SMALL, "y", (1, 1)), y_part)
        self.assertEqual(tree(SMALL, "z", (4, 1)),
                         ("recipe", "z", (4, 1), (y_part, y_part, tree(SMALL, "x", (1, 1)), ("ware", "c", (1, 1)))))

    def test_a_part_for_each_put(self):
        source = random.Random(71)
        for turn in range(60):
            book = some_let_by(source, most_recipes=5, most_rows=3)
            for name, rows in book[2]:
                if size_of(book, name) <= 300:
                    asked = as_amount(Fraction(source.randrange(1, 10 ** 60), source.randrange(1, 10 ** 60)))
                    self.looked_at(book, tree(book, name, asked), name, asked)

    def looked_at(self, book, one, thing, asked):
        if thing in book[0]:
            self.assertEqual(one, ("ware", thing, asked))
            return
        self.assertEqual(one[:3], ("recipe", thing, asked))
        self.assertIs(type(one[3]), tuple)
        due = puts(book, thing, asked)
        self.assertEqual(len(one[3]), len(due))
        for part, (place, name, many) in zip(one[3], due):
            self.looked_at(book, part, name, many)


class TestSize(unittest.TestCase):
    def test_it_counts_itself(self):
        self.assertEqual([size_of(SMALL, thing) for thing in "abcxyz"], [1, 1, 1, 3, 5, 15])

    def test_the_same_for_every_amount(self):
        for asked in ((1, 1), (10 ** 60 - 1, 7), (1, 10 ** 60)):
            for thing in "abcxyz":
                self.assertEqual(counted(tree(SMALL, thing, asked)), size_of(SMALL, thing))

    def test_many_books(self):
        source = random.Random(72)
        for turn in range(60):
            book = some_let_by(source, most_recipes=6, most_rows=3)
            for name, rows in book[2]:
                if size_of(book, name) <= 300:
                    self.assertEqual(counted(tree(book, name, (1, 3))), size_of(book, name))

    def test_a_very_large_one(self):
        size = 2
        for turn in range(11):
            size = 1 + 6 * size
        self.assertEqual(size_of(large_book(6), "v"), size)


class TestTooLarge(unittest.TestCase):
    def refused(self, size, *asked):
        with self.assertRaises(TooLarge) as caught:
            tree(*asked)
        self.assertEqual(caught.exception.size, size)

    def test_just_the_most_and_one_less(self):
        for thing, size in (("a", 1), ("x", 3), ("y", 5), ("z", 15)):
            self.assertEqual(counted(tree(SMALL, thing, (1, 1), size)), size)
            self.assertEqual(counted(tree(SMALL, thing, (1, 1), most=size)), size)
            if size > 1:
                self.refused(size, SMALL, thing, (1, 1), size - 1)

    def test_three_hundred_where_nothing_is_told(self):
        for extra, size in ((21, 299), (22, 300), (23, 301)):
            book = book_of(recipe_of("x", ["a", "b"] * 12), recipe_of("y", ["x"] * 11 + ["c"]),
                           recipe_of("z", ["y"] + ["a"] * extra))
            self.assertEqual(size_of(book, "z"), size)
            if size <= 300:
                self.assertEqual(counted(tree(book, "z", (1, 1))), size)
            else:
                self.refused(301, book, "z", (1, 1))
            self.refused(size, book, "z", (1, 1), size - 1)
            self.assertEqual(counted(tree(book, "z", (1, 1), 301)), size)

    def test_it_is_counted_ahead(self):
        book = large_book(6)
        self.refused(size_of(book, "v"), book, "v", (1, 1))
        self.refused(size_of(book, "v"), book, "v", (1, 1), 100000)


class TestLeaves(unittest.TestCase):
    def test_from_the_left(self):
        self.assertEqual(leaves(("ware", "a", (2, 3))), [("a", (2, 3))])
        self.assertEqual(leaves(tree(SMALL, "y", (1, 1))), [("b", (3, 8)), ("a", (1, 8)), ("a", (1, 2))])
        self.assertEqual([ware for ware, many in leaves(tree(SMALL, "z", (1, 1)))], list("baabaabac"))

    def test_mixed_they_are_what_the_thing_makes(self):
        source = random.Random(73)
        for turn in range(60):
            book = some_let_by(source, most_recipes=5, most_rows=3)
            for thing in [name for name, rows in book[2]] + [book[0][0]]:
                if size_of(book, thing) <= 300:
                    asked = as_amount(Fraction(source.randrange(1, 10 ** 60), source.randrange(1, 10 ** 60)))
                    self.assertEqual(mixture(leaves(tree(book, thing, asked))), made(book, thing, asked))

    def test_a_new_list_each_time(self):
        one = tree(SMALL, "z", (1, 1))
        first = leaves(one)
        told = frozen(first)
        spoil(first)
        self.assertEqual(frozen(leaves(one)), told)

    def test_deep_trees(self):
        one = ("ware", "a", (1, 1))
        for turn in range(45):
            one = ("recipe", "x", (2 + turn, 1), (one, ("ware", "b", (1, 1))))
        self.assertEqual(leaves(one), [("a", (1, 1))] + [("b", (1, 1))] * 45)


if __name__ == "__main__":
    unittest.main()
