"""phialhouse.looker: promise 2.3."""

import random
import unittest

from phialhouse.errors import Meet, NoName, NoPair, Over, PhialError, Ring, Twice
from phialhouse.looker import looked, wares_of
from phialhouse.reader import read_book
from samples import all_wares, some_let_by, spoil, things_in_rows


def book_of(*lines):
    return read_book("\n".join(lines))


def refusal_of(book):
    try:
        looked(book)
    except PhialError as refusal:
        return refusal
    return None


def fields_of(book):
    refusal = refusal_of(book)
    return None if refusal is None else (type(refusal), vars(refusal))


def plain_order(book):
    left = list(book[2])
    order = []
    while left:
        free = [recipe for recipe in left if set(things_in_rows(recipe[1])) <= set(book[0]) | set(order)]
        order.append(free[0][0])
        left.remove(free[0])
    return order


class LookerTest(unittest.TestCase):
    def refused(self, book, kind, **fields):
        self.assertEqual(fields_of(book), (kind, fields))

    def ring_told(self, book):
        refusal = refusal_of(book)
        self.assertIs(type(refusal), Ring)
        ring = refusal.ring
        self.assertIs(type(ring), list)
        self.assertNotEqual(ring, [])
        self.assertEqual(len(set(ring)), len(ring))
        for name, after in zip(ring, ring[1:] + ring[:1]):
            self.assertIn(after, things_in_rows(dict(book[2])[name]))
        return sorted(ring)

    def meet_told(self, book):
        refusal = refusal_of(book)
        self.assertIs(type(refusal), Meet)
        self.assertIs(type(refusal.ways), tuple)
        self.assertEqual(len(refusal.ways), 2)
        for ware, way in zip((refusal.one, refusal.other), refusal.ways):
            self.assertIs(type(way), list)
            self.assertEqual((way[0], way[-1]), (refusal.recipe, ware))
            for name, after in zip(way, way[1:]):
                self.assertIn(after, things_in_rows(dict(book[2])[name]))
        return (refusal.recipe, refusal.one, refusal.other)


class TestTwice(LookerTest):
    def test_wares(self):
        self.refused(book_of("ware a", "ware b", "ware b", "ware a"), Twice, name="b")
        self.refused(book_of("ware a", "ware b", "ware c", "ware a", "ware b"), Twice, name="a")

    def test_recipes(self):
        self.refused(book_of("ware a", "recipe x: take 1 of a", "recipe y: take 1 of a", "recipe y: take 1 of a",
                             "recipe x: take 1 of a"), Twice, name="y")

    def test_a_recipe_called_like_a_ware(self):
        self.refused(book_of("ware a", "ware b", "recipe x: take 1 of a", "recipe b: take 1 of a",
                             "recipe x: take 1 of a"), Twice, name="b")

    def test_wares_come_first(self):
        self.refused(book_of("ware b", "ware a", "ware a", "recipe b: take 1 of a"), Twice, name="a")


class TestNoName(LookerTest):
    def test_in_pairs(self):
        self.refused(book_of("ware a", "apart a b"), NoName, name="b", recipe=None)
        self.refused(book_of("ware a", "apart c b"), NoName, name="c", recipe=None)
        self.refused(book_of("ware a", "ware b", "apart a b", "apart b d", "apart c a"), NoName, name="d", recipe=None)

    def test_a_recipe_in_pairs_is_no_ware(self):
        self.refused(book_of("ware a", "apart a x", "recipe x: take 1 of a"), NoName, name="x", recipe=None)

    def test_pairs_ahead_of_recipes(self):
        self.refused(book_of("ware a", "apart a q", "recipe x: take 1 of p"), NoName, name="q", recipe=None)

    def test_recipe_by_recipe_row_by_row_pair_by_pair(self):
        self.refused(book_of("ware a", "recipe y: take 1 of a", "recipe x: take 1 of a; fill 2 with p; 1 to one of q",
                             "recipe z: take 1 of r"), NoName, name="p", recipe="x")
        self.refused(book_of("ware a", "recipe y: parts 1: 1 a, 1 x, 1 q, 1 p", "recipe x: take 1 of p"),
                     NoName, name="q", recipe="y")
        self.refused(book_of("ware a", "recipe y: take 1 of a; 2 to one of q"), NoName, name="q", recipe="y")
        self.refused(book_of("ware a", "recipe y: fill 1 with q; parts 1: 1 p"), NoName, name="q", recipe="y")

    def test_recipes_told_later_are_told(self):
        self.assertEqual(looked(book_of("ware a", "recipe y: take 1 of x", "recipe x: take 1 of a")), ["x", "y"])


class TestNoPair(LookerTest):
    def test_the_first_one(self):
        self.refused(book_of("ware a", "ware b", "apart a b", "apart b b", "apart a a"), NoPair, name="b")
        self.refused(book_of("ware a", "apart a a"), NoPair, name="a")

    def test_pairs_told_twice_or_turned_about_are_let_by(self):
        self.assertEqual(looked(book_of("ware a", "ware b", "apart a b", "apart b a", "apart a b")), [])


class TestRing(LookerTest):
    def test_of_one(self):
        self.assertEqual(self.ring_told(book_of("ware a", "recipe x: take 1 of a; take 1 of x")), ["x"])
        self.assertEqual(self.ring_told(book_of("ware a", "recipe x: fill 1 with x")), ["x"])

    def test_of_two(self):
        self.assertEqual(self.ring_told(book_of("ware a", "recipe x: take 1 of a; 2 to one of y",
                                                "recipe y: parts 1: 1 a, 1 x")), ["x", "y"])

    def test_of_more(self):
        lines = [f"recipe {one}: take 1 of a; take 1 of {other}" for one, other in zip("pqrst", "qrstp")]
        self.assertEqual(self.ring_told(book_of("ware a", *lines)), list("pqrst"))
        self.assertEqual(self.ring_told(book_of("ware a", *reversed(lines))), list("pqrst"))

    def test_others_lead_into_it(self):
        self.assertEqual(self.ring_told(book_of(
            "ware a", "recipe k: take 1 of a", "recipe l: take 1 of k; take 1 of m", "recipe m: take 1 of x; take 1 of k",
            "recipe x: take 1 of k; take 1 of y", "recipe y: take 1 of a; take 1 of x; take 1 of k")), ["x", "y"])

    def test_the_ring_is_the_askers_own(self):
        book = book_of("ware a", "recipe x: take 1 of y", "recipe y: take 1 of x")
        first = refusal_of(book)
        spoil(first.ring)
        self.assertEqual(self.ring_told(book), ["x", "y"])

    def test_many_rings(self):
        source = random.Random(41)
        found = 0
        for turn in range(300):
            names = [f"r{sign}" for sign in "abcdefghij"[:source.randrange(1, 11)]]
            recipes = [(name, tuple([("take", (1, 1), source.choice(names + ["w"] * 24))
                                     for number in range(source.randrange(1, 7))])) for name in names]
            book = (("w",), (), tuple(recipes))
            if isinstance(refusal_of(book), Ring):
                self.ring_told(book)
                found += 1
            else:
                self.assertEqual(looked(book), plain_order(book))
        self.assertTrue(50 < found < 250, found)


class TestOver(LookerTest):
    def test_behind_each_kind_of_row(self):
        self.refused(book_of("ware a", "recipe x: take 2 of a; fill 1 with a"), Over, recipe="x", place=1)
        self.refused(book_of("ware a", "recipe x: parts 2: 1 a, 2 a; fill 199/100 with a"), Over, recipe="x", place=1)
        self.refused(book_of("ware a", "recipe x: fill 2 with a; fill 1 with a"), Over, recipe="x", place=1)
        self.refused(book_of("ware a", "recipe x: take 1 of a; 2 to one of a; fill 5/2 with a"), Over, recipe="x", place=2)
        self.refused(book_of("ware a", "recipe x: take 1/3 of a; take 1/3 of a; take 1/3 of a; fill 99/100 with a"),
                     Over, recipe="x", place=3)

    def test_a_fill_to_just_what_lies_there(self):
        self.assertEqual(looked(book_of("ware a", "recipe x: take 1/3 of a; take 2/3 of a; fill 1 with a")), ["x"])
        self.assertEqual(looked(book_of("ware a", "recipe x: take 1 of a; 2 to one of a; fill 3 with a; fill 3 with a")),
                         ["x"])

    def test_of_several_the_first(self):
        self.refused(book_of("ware a", "recipe y: take 1 of z", "recipe x: take 3 of a; fill 4 with a; fill 2 with a; "
                             "fill 1 with a", "recipe z: take 2 of a; fill 1 with a"), Over, recipe="x", place=2)

    def test_the_books_order_is_asked_not_that_of_needs(self):
        self.refused(book_of("ware a", "recipe y: take 2 of z; fill 1 with a", "recipe z: take 2 of a; fill 1 with a"),
                     Over, recipe="y", place=1)

    def test_things_that_are_recipes_count_by_their_amount(self):
        self.assertEqual(looked(book_of("ware a", "recipe z: take 9 of a", "recipe x: take 1 of z; fill 1 with a")),
                         ["z", "x"])
        self.refused(book_of("ware a", "recipe z: take 9 of a", "recipe x: take 1 of z; 1 to one of z; fill 1 with a"),
                     Over, recipe="x", place=2)

    def test_behind_a_ring_it_is_the_ring(self):
        self.assertEqual(self.ring_told(book_of("ware a", "recipe x: take 2 of y; fill 1 with a",
                                                "recipe y: take 1 of x")), ["x", "y"])


class TestMeet(LookerTest):
    def test_in_one_recipe(self):
        book = book_of("ware a", "ware b", "apart b a", "recipe x: take 1 of a; fill 2 with b")
        self.refused(book, Meet, recipe="x", one="b", other="a", ways=(["x", "b"], ["x", "a"]))

    def test_through_recipes(self):
        book = book_of("ware a", "ware b", "ware c", "apart a b", "recipe x: take 1 of y; take 1 of z",
                       "recipe y: take 1 of c; take 1 of a", "recipe z: take 1 of w", "recipe w: parts 2: 1 c, 1 b")
        self.refused(book, Meet, recipe="x", one="a", other="b", ways=(["x", "y", "a"], ["x", "z", "w", "b"]))

    def test_the_first_recipe_by_the_books_order(self):
        book = book_of("ware a", "ware b", "ware c", "apart a c", "apart a b", "recipe v: take 1 of a",
                       "recipe u: take 1 of x", "recipe x: take 1 of a; take 1 of b", "recipe w: take 1 of a; take 1 of c")
        self.assertEqual(self.meet_told(book), ("u", "a", "b"))

    def test_then_the_first_pair(self):
        book = book_of("ware a", "ware b", "ware c", "ware d", "apart d a", "apart c b", "apart b a",
                       "recipe x: take 1 of a; take 1 of b; take 1 of c")
        self.assertEqual(self.meet_told(book), ("x", "c", "b"))

    def test_a_fill_that_lacks_nothing_has_its_thing_all_the_same(self):
        book = book_of("ware a", "ware b", "apart a b", "recipe x: take 1 of a; fill 1 with b")
        self.assertEqual(self.meet_told(book), ("x", "a", "b"))

    def test_pairs_that_meet_nowhere(self):
        self.assertEqual(looked(book_of("ware a", "ware b", "ware c", "apart a b", "recipe x: take 1 of a; take 1 of c",
                                        "recipe y: take 1 of b; take 1 of c")), ["x", "y"])

    def test_the_ways_are_the_askers_own(self):
        book = book_of("ware a", "ware b", "apart b a", "recipe x: take 1 of a; fill 2 with b")
        spoil(refusal_of(book).ways)
        self.assertEqual(refusal_of(book).ways, (["x", "b"], ["x", "a"]))

    def test_many_ways_are_walked_quickly(self):
        names = "klmnopqrstuv"
        lines = ["recipe k: take 1 of a"]
        lines += [f"recipe {name}: " + "; ".join([f"parts 1: 1 {under}, 1 {under}, 1 {under}, 1 {under}"] * 6)
                  for under, name in zip(names, names[1:])]
        lines[-1] = "recipe v: take 1 of b; take 1 of u"
        book = book_of("ware a", "ware b", "apart b a", *lines)
        self.refused(book, Meet, recipe="v", one="b", other="a", ways=(["v", "b"], list("vutsrqponmlk") + ["a"]))

    def test_many_books(self):
        source = random.Random(42)
        found = 0
        for turn in range(200):
            book = some_let_by(source)
            pairs = [tuple(source.sample(book[0], 2)) for number in range(4)] if len(book[0]) > 1 else []
            book = (book[0], book[1] + tuple(pairs), book[2])
            due = [(name, one, other) for name, rows in book[2] for one, other in book[1]
                   if {one, other} <= all_wares(book, name)]
            if due:
                self.assertEqual(self.meet_told(book), due[0])
                found += 1
            else:
                self.assertEqual(looked(book), plain_order(book))
        self.assertTrue(20 < found < 200, found)


class TestFirstDue(LookerTest):
    def test_each_ahead_of_each_later_one(self):
        faults = [
            (Twice, [], ["ware a"], [], []),
            (NoName, [], [], ["apart a q"], []),
            (NoPair, [], [], ["apart b b"], []),
            (Ring, [], [], [], ["recipe k: take 1 of a; take 1 of k"]),
            (Over, [], [], [], ["recipe l: take 2 of a; fill 1 with a"]),
            (Meet, [], [], ["apart a b"], ["recipe m: take 1 of a; take 1 of b"]),
        ]
        for place, fault in enumerate(faults):
            for later in faults[place:]:
                for one, other in ((fault, later), (later, fault)):
                    lines = ["ware a", "ware b"]
                    for kind in (2, 3, 4):
                        lines += one[kind] + (other[kind] if one is not other else [])
                    self.assertIs(type(refusal_of(book_of(*lines))), fault[0], lines)

    def test_no_name_in_a_recipe_comes_ahead_too(self):
        self.refused(book_of("ware a", "apart a a", "recipe x: take 1 of q"), NoName, name="q", recipe="x")
        self.refused(book_of("ware a", "recipe x: take 1 of x", "recipe y: take 1 of q"), NoName, name="q", recipe="y")
        self.refused(book_of("ware a", "recipe x: take 2 of a; fill 1 with a", "recipe y: take 1 of q"),
                     NoName, name="q", recipe="y")


class TestOrder(LookerTest):
    def test_without_recipes(self):
        self.assertEqual(looked(book_of("ware a")), [])
        self.assertEqual(looked(book_of("ware b", "ware a", "apart b a")), [])

    def test_recipes_of_wares_stay_in_the_books_order(self):
        self.assertEqual(looked(book_of("ware a", "recipe z: take 1 of a", "recipe x: take 1 of a",
                                        "recipe y: take 1 of a")), ["z", "x", "y"])

    def test_recipes_told_ahead_of_those_they_need(self):
        self.assertEqual(looked(book_of("ware a", "recipe t: take 1 of s; take 1 of r", "recipe s: take 1 of r",
                                        "recipe r: take 1 of a", "recipe q: take 1 of a")), ["r", "s", "t", "q"])
        self.assertEqual(looked(book_of("ware a", "recipe t: take 1 of q", "recipe s: take 1 of a", "recipe r: take 1 of t",
                                        "recipe q: take 1 of s")), ["s", "q", "t", "r"])

    def test_many_books(self):
        source = random.Random(43)
        for turn in range(150):
            book = some_let_by(source)
            self.assertEqual(looked(book), plain_order(book))

    def test_a_new_list_each_time(self):
        book = book_of("ware a", "recipe x: take 1 of a", "recipe y: take 1 of a")
        first = looked(book)
        spoil(first)
        self.assertEqual(looked(book), ["x", "y"])
        self.assertIs(type(looked(book)), list)


class TestWaresOf(LookerTest):
    def setUp(self):
        self.book = book_of("ware d", "ware c", "ware b", "ware a", "recipe z: take 1 of y; take 1 of b; take 1 of y",
                            "recipe y: take 1 of c; take 1 of a; take 1 of c", "recipe x: take 1 of d; fill 1 with a")

    def test_of_a_ware(self):
        self.assertEqual(wares_of(self.book, "d"), ["d"])
        self.assertEqual(wares_of(self.book, "a"), ["a"])

    def test_of_recipes(self):
        self.assertEqual(wares_of(self.book, "y"), ["a", "c"])
        self.assertEqual(wares_of(self.book, "z"), ["a", "b", "c"])
        self.assertEqual(wares_of(self.book, "x"), ["a", "d"])

    def test_a_new_list_each_time(self):
        for thing in ("d", "y", "z"):
            first = wares_of(self.book, thing)
            told = list(first)
            spoil(first)
            self.assertEqual(wares_of(self.book, thing), told)

    def test_many_books(self):
        source = random.Random(44)
        for turn in range(100):
            book = some_let_by(source)
            for name in list(book[0]) + [name for name, rows in book[2]]:
                self.assertEqual(wares_of(book, name), sorted(all_wares(book, name)))


if __name__ == "__main__":
    unittest.main()
