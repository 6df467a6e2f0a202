"""phialhouse.mixtures: promises 1.4 to 1.6."""

import random
import unittest
from fractions import Fraction

from phialhouse.errors import Nothing, Short
from phialhouse.mixtures import alike, brought, is_ware, mixture, of_ware, taken, together, whole
from samples import as_amount, as_fraction, as_mixture

LARGE = 10 ** 60 + 7
BRINE = (("salt", (1, 2)), ("water", (3, 2)))


def some_parts(source):
    wares = source.sample(["acid", "lye", "oil", "salt", "water", "wax"], source.randrange(0, 6))
    most = source.choice([5, 5, 50, 10 ** 62])
    return {ware: Fraction(source.randrange(1, most), source.randrange(1, most)) for ware in wares}


class TestIsWare(unittest.TestCase):
    def test_wares(self):
        for thing in ["a", "z", "m", "az", "salt", "water", "abcdefgh", "stuvwxyz", "ijklmnop", "qr", "zzzzzzzz"]:
            self.assertIs(is_ware(thing), True, thing)

    def test_texts_that_are_none(self):
        for thing in ["", "abcdefghi", "a" * 9, "a" * 20000, "A", "Salt", "salT", "salt1", "1", "sal t", " salt",
                      "salt ", "salt\n", "\n", "a-b", "a_b", "`", "{", "a\x00", "\u00e9", "s\u00e4lt", "\u00df",
                      "\u0430", "\u00aa", "\uff41", "\u03b1", " "]:
            self.assertIs(is_ware(thing), False, repr(thing))

    def test_other_things(self):
        for thing in [None, True, False, 0, 1, 97, 1.5, (), [], {}, ("a",), ["a"], ["salt"], ("s", "a"), {"a": 1},
                      {"a"}, b"a", b"salt", str, object()]:
            self.assertIs(is_ware(thing), False, repr(thing))


class TestMixture(unittest.TestCase):
    def test_the_empty_one(self):
        self.assertEqual(mixture([]), ())

    def test_sorted(self):
        self.assertEqual(mixture([("water", (3, 2)), ("salt", (1, 2))]), BRINE)
        self.assertEqual(mixture([("b", (1, 1)), ("ab", (2, 1)), ("a", (3, 1)), ("aa", (4, 1))]),
                         (("a", (3, 1)), ("aa", (4, 1)), ("ab", (2, 1)), ("b", (1, 1))))

    def test_alike_wares_are_added(self):
        self.assertEqual(mixture([("salt", (1, 2)), ("water", (1, 1)), ("salt", (1, 3)), ("salt", (1, 6))]),
                         (("salt", (1, 1)), ("water", (1, 1))))
        self.assertEqual(mixture([("a", (1, LARGE)), ("a", (1, 2))]), (("a", (LARGE + 2, 2 * LARGE)),))

    def test_what_is_nought_is_left_out(self):
        self.assertEqual(mixture([("salt", (0, 1))]), ())
        self.assertEqual(mixture([("salt", (0, 1)), ("salt", (0, 1)), ("wax", (0, 1))]), ())
        self.assertEqual(mixture([("salt", (0, 1)), ("salt", (1, 2)), ("oil", (0, 1)), ("salt", (0, 1))]),
                         (("salt", (1, 2)),))

    def test_the_list_stays_as_it_was(self):
        pairs = [("water", (1, 1)), ("salt", (0, 1)), ("oil", (1, 2)), ("water", (2, 1))]
        copied = list(pairs)
        told = mixture(pairs)
        self.assertEqual(pairs, copied)
        pairs.clear()
        self.assertEqual(told, (("oil", (1, 2)), ("water", (3, 1))))

    def test_it_is_a_tuple_of_tuples(self):
        told = mixture([("water", (1, 1)), ("oil", (1, 2))])
        self.assertIs(type(told), tuple)
        self.assertEqual([type(pair) for pair in told], [tuple, tuple])
        self.assertEqual([type(pair[1]) for pair in told], [tuple, tuple])

    def test_against_fractions(self):
        source = random.Random(14)
        for turn in range(200):
            parts = {}
            pairs = []
            for number in range(source.randrange(0, 10)):
                ware = source.choice(["acid", "b", "lye", "z"])
                one = Fraction(source.randrange(0, 4), source.randrange(1, 4))
                parts[ware] = parts.get(ware, Fraction(0)) + one
                pairs.append((ware, as_amount(one)))
            self.assertEqual(mixture(pairs), as_mixture(parts))


class TestLookedAt(unittest.TestCase):
    def test_whole(self):
        self.assertEqual(whole(()), (0, 1))
        self.assertEqual(whole(BRINE), (2, 1))
        self.assertEqual(whole((("a", (1, 3)),)), (1, 3))
        self.assertEqual(whole((("a", (1, 2)), ("b", (1, 3)), ("c", (1, 6)))), (1, 1))
        self.assertEqual(whole((("a", (1, LARGE)), ("b", (LARGE - 1, LARGE)))), (1, 1))

    def test_of_ware(self):
        self.assertEqual(of_ware(BRINE, "salt"), (1, 2))
        self.assertEqual(of_ware(BRINE, "water"), (3, 2))

    def test_of_a_ware_that_is_not_there(self):
        for ware in ["oil", "a", "zz", "sal", "saltx", "wate"]:
            self.assertEqual(of_ware(BRINE, ware), (0, 1))
        self.assertEqual(of_ware((), "salt"), (0, 1))


class TestTogether(unittest.TestCase):
    def test_plain_ones(self):
        self.assertEqual(together(BRINE, (("oil", (1, 1)), ("salt", (1, 2)))),
                         (("oil", (1, 1)), ("salt", (1, 1)), ("water", (3, 2))))
        self.assertEqual(together((("z", (1, 1)),), (("a", (2, 1)),)), (("a", (2, 1)), ("z", (1, 1))))

    def test_with_the_empty_one(self):
        self.assertEqual(together(BRINE, ()), BRINE)
        self.assertEqual(together((), BRINE), BRINE)
        self.assertEqual(together((), ()), ())

    def test_against_fractions(self):
        source = random.Random(15)
        for turn in range(200):
            one = some_parts(source)
            other = some_parts(source)
            both = {ware: one.get(ware, 0) + other.get(ware, 0) for ware in list(one) + list(other)}
            self.assertEqual(together(as_mixture(one), as_mixture(other)), as_mixture(both))


class TestBrought(unittest.TestCase):
    def test_plain_ones(self):
        self.assertEqual(brought(BRINE, (1, 1)), (("salt", (1, 4)), ("water", (3, 4))))
        self.assertEqual(brought(BRINE, (2, 1)), BRINE)
        self.assertEqual(brought(BRINE, (4, 1)), (("salt", (1, 1)), ("water", (3, 1))))
        self.assertEqual(brought(BRINE, (1, 3)), (("salt", (1, 12)), ("water", (1, 4))))
        self.assertEqual(brought((("oil", (5, 7)),), (2, 3)), (("oil", (2, 3)),))

    def test_to_nought(self):
        self.assertEqual(brought(BRINE, (0, 1)), ())
        self.assertEqual(brought((), (0, 1)), ())

    def test_the_empty_one_to_more_than_nought(self):
        for asked in [(1, 1), (1, 10 ** 60), (5, 2)]:
            self.assertRaises(Nothing, brought, (), asked)

    def test_against_fractions(self):
        source = random.Random(16)
        for turn in range(200):
            parts = some_parts(source)
            asked = Fraction(source.randrange(1, 90), source.randrange(1, 10 ** source.randrange(1, 62)))
            if parts:
                told = {ware: parts[ware] * asked / sum(parts.values()) for ware in parts}
                self.assertEqual(brought(as_mixture(parts), as_amount(asked)), as_mixture(told))


class TestTaken(unittest.TestCase):
    def short(self, one, asked, lies):
        with self.assertRaises(Short) as caught:
            taken(one, asked)
        self.assertEqual(caught.exception.lies, lies)

    def test_some_of_it(self):
        self.assertEqual(taken(BRINE, (1, 1)), ((("salt", (1, 4)), ("water", (3, 4))),
                                                (("salt", (1, 4)), ("water", (3, 4)))))
        self.assertEqual(taken(BRINE, (1, 2)), ((("salt", (1, 8)), ("water", (3, 8))),
                                                (("salt", (3, 8)), ("water", (9, 8)))))

    def test_none_of_it(self):
        self.assertEqual(taken(BRINE, (0, 1)), ((), BRINE))
        self.assertEqual(taken((), (0, 1)), ((), ()))

    def test_all_of_it(self):
        self.assertEqual(taken(BRINE, (2, 1)), (BRINE, ()))

    def test_more_than_the_whole(self):
        self.short(BRINE, (3, 1), (2, 1))
        self.short(BRINE, (2 * 10 ** 60 + 1, 10 ** 60), (2, 1))
        self.short((("oil", (1, 3)),), (1, 2), (1, 3))

    def test_more_than_nought_of_the_empty_one(self):
        self.short((), (1, 1), (0, 1))
        self.short((), (1, 10 ** 60), (0, 1))

    def test_it_is_a_tuple_of_two_tuples(self):
        told = taken(BRINE, (1, 1))
        self.assertIs(type(told), tuple)
        self.assertEqual([type(part) for part in told], [tuple, tuple])

    def test_against_fractions(self):
        source = random.Random(17)
        for turn in range(300):
            parts = some_parts(source)
            lies = sum(parts.values(), Fraction(0))
            asked = lies * Fraction(source.randrange(0, 12), 10)
            if asked > lies:
                self.short(as_mixture(parts), as_amount(asked), as_amount(lies))
                continue
            share = asked / lies if lies else Fraction(0)
            out = {ware: parts[ware] * share for ware in parts}
            left = {ware: parts[ware] * (1 - share) for ware in parts}
            self.assertEqual(taken(as_mixture(parts), as_amount(asked)), (as_mixture(out), as_mixture(left)))


class TestAlike(unittest.TestCase):
    def test_both_empty(self):
        self.assertIs(alike((), ()), True)

    def test_one_empty(self):
        self.assertIs(alike((), BRINE), False)
        self.assertIs(alike(BRINE, ()), False)
        self.assertIs(alike((("a", (1, 1)),), ()), False)

    def test_the_same(self):
        self.assertIs(alike(BRINE, BRINE), True)

    def test_the_same_in_other_amounts(self):
        self.assertIs(alike(BRINE, (("salt", (1, 1)), ("water", (3, 1)))), True)
        self.assertIs(alike((("salt", (1, 7)), ("water", (3, 7))), BRINE), True)
        self.assertIs(alike((("a", (1, LARGE)),), (("a", (LARGE, 1)),)), True)

    def test_unlike_ones(self):
        for other in [(("salt", (1, 2)),), (("salt", (1, 2)), ("water", (1, 1))), (("oil", (1, 2)), ("water", (3, 2))),
                      (("salt", (3, 2)), ("water", (1, 2))), (("salt", (1, 2)), ("water", (3, 2)), ("wax", (1, 9))),
                      (("salt", (1, 1)), ("water", (1, 1)))]:
            with self.subTest(other):
                self.assertIs(alike(BRINE, other), False)
                self.assertIs(alike(other, BRINE), False)

    def test_hardly_unlike_ones(self):
        one = (("a", (LARGE, 1)), ("b", (LARGE, 1)))
        self.assertIs(alike(one, (("a", (LARGE, 1)), ("b", (LARGE + 1, 1)))), False)


if __name__ == "__main__":
    unittest.main()
