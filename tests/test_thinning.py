"""phialhouse.thinning: promises 6.1, 6.2 and 6.5."""

import random
import unittest

from phialhouse.errors import Dry, NoDeed, PhialError, Spilt
from phialhouse.thinning import serves, thinned
from samples import ANYTHING, frozen, plain_done, rows_that_go, some_bench, some_phials, spoil

BENCH = (((2, 1), (3, 1), (1, 1)), (("acid", "lye"),))
CLEAN = [((), ()), ((), ()), ((), ())]
SALT = ("draw", 0, "salt", (1, 1))
OIL = ("draw", 0, "oil", (1, 2))


def plainly_walked(bench, phials, rows):
    there = list(phials)
    for row in rows:
        if row[0] == "pour" and row[1] == row[2]:
            return None
        told = plain_done(bench, there, row)
        if told[0] != "ok":
            return None
        there = told[1]
    return there


def plainly_serves(bench, phials, rows, other, goal):
    due = plainly_walked(bench, phials, rows)[goal]
    there = plainly_walked(bench, phials, other)
    return there is not None and there[goal][0] == due[0] and set(there[goal][1]) <= set(due[1])


class TestServes(unittest.TestCase):
    def serves_is(self, rows, other, goal, told, phials=None):
        self.assertIs(serves(BENCH, CLEAN if phials is None else phials, rows, other, goal), told)

    def test_the_same_rows(self):
        for rows in ([], [SALT], [SALT, OIL, ("pour", 0, 1, (1, 3))]):
            for goal in (0, 1, 2):
                self.serves_is(rows, list(rows), goal, True)

    def test_another_mixture(self):
        self.serves_is([SALT, OIL], [SALT], 0, False)
        self.serves_is([SALT], [SALT, OIL], 0, False)
        self.serves_is([SALT], [("draw", 0, "salt", (1, 2))], 0, False)
        self.serves_is([SALT], [], 0, False)

    def test_the_same_mixture_by_other_rows(self):
        self.serves_is([SALT, OIL], [OIL, SALT], 0, True)
        self.serves_is([SALT], [("draw", 0, "salt", (1, 3)), ("draw", 0, "salt", (2, 3))], 0, True)
        self.serves_is([SALT], [("draw", 1, "salt", (2, 1)), ("pour", 1, 0, (1, 2))], 0, True)

    def test_a_name_more_and_a_name_less(self):
        longer = [OIL, ("empty", 0), SALT]
        self.serves_is([SALT], longer, 0, False)
        self.serves_is(longer, [SALT], 0, True)
        self.serves_is(longer, [OIL, ("empty", 0), ("rinse", 0), SALT], 0, True)
        self.serves_is([SALT, ("empty", 0)], [], 0, True)
        self.serves_is([("rinse", 0), SALT], [SALT], 0, False, [((), ("oil",)), ((), ()), ((), ())])

    def test_rows_that_are_refused(self):
        for other in ([("pour", 0, 1, (1, 1)), SALT], [SALT, ("rinse", 0)], [SALT, ("fill", 0, "salt", (1, 1))],
                      [SALT, ("draw", 2, "oil", (2, 1))], [SALT, ("draw", 1, "acid", (1, 1)), ("draw", 1, "lye", (1, 1))]):
            self.serves_is([SALT], other, 0, False)
        for thing in ANYTHING:
            self.serves_is([SALT], [SALT, thing], 0, False)

    def test_other_phials_left_otherwise(self):
        self.serves_is([SALT], [("draw", 1, "acid", (1, 1)), SALT, ("draw", 2, "wax", (1, 1))], 0, True)
        self.serves_is([SALT, ("draw", 1, "acid", (1, 1))], [SALT], 0, True)
        self.serves_is([SALT, ("draw", 1, "acid", (1, 1))], [SALT], 1, False)

    def test_many_rows(self):
        source = random.Random(141)
        told = {True: 0, False: 0}
        for turn in range(300):
            bench = some_bench(source)
            phials = some_phials(source, bench)
            rows, there = rows_that_go(source, bench, phials, 12)
            other = [row for row in rows if source.random() < 0.9]
            goal = source.randrange(len(phials))
            before = frozen([bench, phials, rows, other])
            due = plainly_serves(bench, phials, rows, other, goal)
            self.assertIs(serves(bench, phials, rows, other, goal), due)
            self.assertEqual(frozen([bench, phials, rows, other]), before)
            told[due] += 1
        self.assertGreater(min(told.values()), 40)


class TestThinned(unittest.TestCase):
    def looked_at(self, bench, phials, rows, goal):
        before = frozen([bench, phials, rows])
        told = thinned(bench, phials, rows, goal)
        self.assertEqual(frozen([bench, phials, rows]), before)
        self.assertEqual([type(part) for part in (told,) + told], [tuple, list, list])
        left, places = told
        self.assertEqual(places, sorted(set(places)))
        self.assertEqual(left, [rows[place] for place in places])
        self.assertTrue(plainly_serves(bench, phials, rows, left, goal))
        for place in range(len(left)):
            self.assertFalse(plainly_serves(bench, phials, rows, left[:place] + left[place + 1:], goal))
        return left

    def test_no_rows(self):
        self.assertEqual(thinned(BENCH, CLEAN, [], 0), ([], []))

    def test_none_can_be_left_out(self):
        rows = [SALT, ("draw", 1, "oil", (1, 1)), ("pour", 1, 0, (1, 2))]
        self.assertEqual(thinned(BENCH, CLEAN, rows, 0), (rows, [0, 1, 2]))

    def test_rows_of_other_phials(self):
        rows = [("draw", 1, "acid", (1, 1)), SALT, ("pour", 1, 2, (1, 1)), ("empty", 2), OIL, ("rinse", 2)]
        self.assertEqual(thinned(BENCH, CLEAN, rows, 0), ([SALT, OIL], [1, 4]))

    def test_what_clings_must_go(self):
        phials = [((), ("oil",)), ((), ()), ((), ())]
        rows = [("rinse", 0), SALT, ("rinse", 1)]
        self.assertEqual(thinned(BENCH, phials, rows, 0), (rows[:2], [0, 1]))

    def test_all_can_be_left_out(self):
        self.assertEqual(thinned(BENCH, CLEAN, [SALT, ("empty", 0), ("rinse", 0)], 0), ([], []))
        self.assertEqual(thinned(BENCH, CLEAN, [SALT, OIL], 1), ([], []))

    def test_two_that_go_only_together_are_left(self):
        # What is poured out comes back: without the one of these rows too little is there, without the other it is refused.
        rows = [("draw", 0, "salt", (2, 1)), ("pour", 0, 1, (1, 2)), ("pour", 1, 0, (1, 1))]
        self.assertEqual(thinned(BENCH, CLEAN, rows, 0), (rows, [0, 1, 2]))
        self.assertTrue(serves(BENCH, CLEAN, rows, rows[:1], 0))
        rows = [("draw", 0, "salt", (1, 1)), ("draw", 0, "salt", (1, 1)), ("pour", 0, 1, (1, 2)), ("draw", 1, "oil", (1, 1)),
                ("rinse", 2)]
        self.assertEqual(thinned(BENCH, CLEAN, rows, 0), (rows[:3], [0, 1, 2]))
        self.assertTrue(serves(BENCH, CLEAN, rows, [SALT], 0))

    def test_many_rows(self):
        source = random.Random(142)
        shorter = 0
        for turn in range(150):
            bench = some_bench(source)
            phials = some_phials(source, bench)
            rows, there = rows_that_go(source, bench, phials, 25)
            goal = source.randrange(len(phials))
            shorter += len(self.looked_at(bench, phials, rows, goal)) < len(rows)
        self.assertGreater(shorter, 60)

    def test_forty_rows(self):
        source = random.Random(143)
        bench = (((40, 1), (30, 1), (20, 1)), ())
        for turn in range(10):
            rows = []
            while len(rows) < 40:
                rows = rows_that_go(source, bench, CLEAN, 100)[0]
            for goal in (0, 1, 2):
                self.looked_at(bench, CLEAN, rows[:40], goal)

    def test_the_told_lists_are_the_askers_own(self):
        rows = [("draw", 1, "acid", (1, 1)), SALT, OIL]
        first = thinned(BENCH, CLEAN, rows, 0)
        spoil(first)
        self.assertEqual(thinned(BENCH, CLEAN, rows, 0), ([SALT, OIL], [1, 2]))
        self.assertEqual(rows, [("draw", 1, "acid", (1, 1)), SALT, OIL])


class TestRefused(unittest.TestCase):
    def test_given_rows_that_do_not_go_through(self):
        for rows, kind, place in [([SALT, ("pour", 1, 0, (1, 1))], Dry, 1), ([("draw", 2, "oil", (2, 1)), SALT], Spilt, 0),
                                  ([SALT, OIL, None, ("rinse", 0)], NoDeed, 2)]:
            for told in (lambda: serves(BENCH, CLEAN, rows, [SALT], 0), lambda: serves(BENCH, CLEAN, rows, rows, 0),
                         lambda: serves(BENCH, CLEAN, rows, [None], 0), lambda: thinned(BENCH, CLEAN, rows, 0)):
                with self.assertRaises(kind) as caught:
                    told()
                self.assertEqual(caught.exception.place, place)

    def test_many(self):
        source = random.Random(144)
        for turn in range(60):
            bench = some_bench(source)
            phials = some_phials(source, bench)
            rows, there = rows_that_go(source, bench, phials, 10)
            for told in (lambda: thinned(bench, phials, rows + [("rinse",)] + rows, 0),
                         lambda: serves(bench, phials, rows + [("rinse",)], [], 0)):
                with self.assertRaises(PhialError) as caught:
                    told()
                self.assertEqual((type(caught.exception), caught.exception.place), (NoDeed, len(rows)))


if __name__ == "__main__":
    unittest.main()
