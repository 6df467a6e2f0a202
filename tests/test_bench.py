"""phialhouse.bench: promises 4.1 and 4.2."""

import random
import unittest

from phialhouse.bench import clean, fit, is_bench, pair_in
from samples import ANYTHING, numbered, some_bench, some_phials, spoil

THIRTY = tuple(sorted([("aa", numbered(number)) for number in range(30)]))
PLAIN = (((1, 1), (3, 2)), (("acid", "lye"), ("lye", "oil")))


class TestIsBench(unittest.TestCase):
    def test_benches(self):
        for thing in [PLAIN, (((1, 1),), ()), (((1, 2),) * 16, THIRTY), (((10 ** 60, 7),), (("a", "b"),)),
                      (((1, 10 ** 60),), (("a", "b"), ("a", "c"), ("b", "c"))), (((3, 1), (3, 1), (1, 9)), ()),
                      (((1, 1),), (("a", "aa"), ("a", "ab"), ("aa", "ab"), ("b", "zzzzzzzz")))]:
            self.assertIs(is_bench(thing), True, thing)

    def test_rooms_that_are_none(self):
        for rooms in [(), ((1, 1),) * 17, ((0, 1),), ((1, 1), (0, 1)), ((2, 4),), ((1, 0),), ((1, -1),), ((-1, 1),),
                      ((-1, -1),), ((0, 2),), ((2, 2),), (1,), (1, 1), ((1,),), ((1, 1, 1),), ((True, 1),), ((1, True),),
                      ((1.0, 1),), (("1", 1),), ([1, 1],), [(1, 1)], ("a",), "ab", ((1, 1), None), (None,), ((),), {},
                      {(1, 1): 1}, ((1, 1), (2, 4))]:
            self.assertIs(is_bench((rooms, ())), False, rooms)

    def test_pairs_that_are_none(self):
        for apart in [(("b", "a"),), (("a", "a"),), (("a", "b"), ("a", "b")), (("a", "c"), ("a", "b")),
                      (("b", "c"), ("a", "c")), (("a",),), (("a", "b", "c"),), (("A", "b"),), (("a", ""),), ("ab",), ("a", "b"),
                      (("a", "abcdefghi"),), (("a", 1),), ((1, 2),), ((None, "a"),), (("a", None),), (["a", "b"],),
                      [("a", "b")], [], {}, "", None, (None,), ((),), ((("a",), "b"),), (("a", ["b"]),), (True,),
                      THIRTY + (("ab", "ac"),)]:
            self.assertIs(is_bench((((1, 1),), apart)), False, apart)

    def test_thirty_one_pairs(self):
        more = tuple(sorted([("aa", numbered(number)) for number in range(31)]))
        self.assertIs(is_bench((((1, 1),), more[:30])), True)
        self.assertIs(is_bench((((1, 1),), more)), False)

    def test_anything(self):
        for thing in ANYTHING + [list(PLAIN), PLAIN + ((),), (PLAIN[0],), PLAIN[0], PLAIN[1], (PLAIN[1], PLAIN[0]),
                                 {"rooms": 1}]:
            self.assertIs(is_bench(thing), False, repr(thing))

    def test_anything_within(self):
        for thing in ANYTHING:
            self.assertIs(is_bench((PLAIN[0], thing)), thing == (), repr(thing))
            self.assertIs(is_bench((thing, ())), False, repr(thing))
            self.assertIs(is_bench((((1, 1), thing), ())), thing == (1, 1) and thing is not True, repr(thing))
            self.assertIs(is_bench((((1, 1),), (thing,))), thing == ("a", "b"), repr(thing))
            self.assertIs(is_bench((((1, thing),), ())), thing == 1 and thing is not True or thing == 10 ** 30, repr(thing))
            self.assertIs(is_bench((((1, 1),), (("a", thing),))), thing == "water", repr(thing))

    def test_many_benches(self):
        source = random.Random(81)
        for turn in range(100):
            self.assertIs(is_bench(some_bench(source, 16, 15)), True)


class TestClean(unittest.TestCase):
    def test_as_many_as_rooms(self):
        self.assertEqual(clean(PLAIN), [((), ()), ((), ())])
        self.assertEqual(clean((((1, 1),) * 16, ())), [((), ())] * 16)

    def test_a_new_list_each_time(self):
        spoil(clean(PLAIN))
        self.assertEqual(clean(PLAIN), [((), ()), ((), ())])


class TestFit(unittest.TestCase):
    def test_clean_phials_fit(self):
        self.assertIs(fit(PLAIN, clean(PLAIN)), True)

    def test_as_many(self):
        for many in (0, 1, 3, 16):
            self.assertIs(fit(PLAIN, [((), ())] * many), False, many)

    def test_just_its_room(self):
        self.assertIs(fit(PLAIN, [((("oil", (1, 3)), ("wax", (2, 3))), ("oil", "wax")), ((), ())]), True)
        self.assertIs(fit(PLAIN, [((("oil", (1, 3)), ("wax", (3, 4))), ("oil", "wax")), ((), ())]), False)
        self.assertIs(fit(PLAIN, [((), ()), ((("oil", (3, 2)),), ("oil",))]), True)
        self.assertIs(fit(PLAIN, [((), ()), ((("oil", (151, 100)),), ("oil",))]), False)

    def test_names_that_are_a_pair(self):
        self.assertIs(fit(PLAIN, [((), ("acid", "oil")), ((), ("lye", "wax"))]), True)
        self.assertIs(fit(PLAIN, [((), ("acid", "lye")), ((), ())]), False)
        self.assertIs(fit(PLAIN, [((), ()), ((("oil", (1, 1)),), ("lye", "oil"))]), False)
        self.assertIs(fit(PLAIN, [((), ()), ((), ("acid", "lye", "wax"))]), False)

    def test_many_phials(self):
        source = random.Random(82)
        for turn in range(100):
            bench = some_bench(source)
            phials = some_phials(source, bench)
            before = list(phials)
            self.assertIs(fit(bench, phials), True)
            self.assertEqual(phials, before)


class TestPairIn(unittest.TestCase):
    def test_the_first_pair(self):
        bench = (((1, 1),), (("a", "c"), ("a", "d"), ("b", "c")))
        self.assertIsNone(pair_in(bench, ()))
        self.assertIsNone(pair_in(bench, ("a", "b")))
        self.assertIsNone(pair_in(bench, ("c", "d")))
        self.assertEqual(pair_in(bench, ("a", "c", "d")), ("a", "c"))
        self.assertEqual(pair_in(bench, ("a", "b", "d")), ("a", "d"))
        self.assertEqual(pair_in(bench, ["c", "b"]), ("b", "c"))
        self.assertEqual(pair_in(bench, ("a", "b", "c", "d")), ("a", "c"))
        self.assertIsNone(pair_in((((1, 1),), ()), ("a", "b", "c", "d")))


if __name__ == "__main__":
    unittest.main()
