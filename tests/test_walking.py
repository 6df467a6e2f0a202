"""phialhouse.walking: promises 4.5, 4.6 and 4.8."""

import random
import unittest
from fractions import Fraction

from phialhouse.bench import clean, fit
from phialhouse.errors import Dry, Low, NoDeed, PhialError, Spilt, Touch, Wet
from phialhouse.walking import done, first_refused, spoilt, walked
from samples import ANYTHING, as_fraction, frozen, plain_done, rows_that_go, some_bench, some_deed, some_phials, spoil

BENCH = (((2, 1), (3, 1), (1, 1)), (("acid", "lye"),))
GOOD = [("draw", 0, "salt", (1, 1)), ("fill", 0, "water", (3, 2)), ("pour", 0, 1, (1, 2)), ("empty", 0), ("rinse", 0),
        ("draw", 2, "acid", (1, 1)), ("pour", 2, 0, (1, 1)), ("empty", 0), ("empty", 2)]
BEHIND = [((), ("acid",)), ((("salt", (1, 2)), ("water", (1, 4))), ("salt", "water")), ((), ("acid",))]
BAD = [(("draw", 3, "salt", (1, 1)), NoDeed, {}), ("rinse", NoDeed, {}), (None, NoDeed, {}),
       (("pour", 0, 1, (1, 1)), Dry, {"phial": 0}), (("rinse", 1), Wet, {"phial": 1}),
       (("fill", 1, "wax", (3, 4)), Low, {"phial": 1}), (("draw", 1, "wax", (3, 1)), Spilt, {"phial": 1, "over": (3, 4)}),
       (("draw", 0, "lye", (1, 1)), Touch, {"phial": 0, "pair": ("acid", "lye")})]


def drawn_in(bench, phials, rows):
    """Of each ware, how much draws and fills put in."""
    found = {}
    there = phials
    for row in rows:
        behind = plain_done(bench, there, row)[1]
        if row[0] in ("draw", "fill"):
            more = dict(behind[row[1]][0])[row[2]]
            before = dict(there[row[1]][0]).get(row[2], (0, 1))
            found[row[2]] = found.get(row[2], 0) + as_fraction(more) - as_fraction(before)
        there = behind
    return found


def added(parts, one):
    for ware, many in one:
        parts[ware] = parts.get(ware, Fraction(0)) + as_fraction(many)
    return parts


class WalkingTest(unittest.TestCase):
    def refused(self, kind, fields, function, *given):
        with self.assertRaises(kind) as caught:
            function(*given)
        self.assertIs(type(caught.exception), kind)
        self.assertEqual(vars(caught.exception), fields)


class TestDone(WalkingTest):
    def test_one_row(self):
        phials = clean(BENCH)
        self.assertEqual(done(BENCH, phials, GOOD[0]), [((("salt", (1, 1)),), ("salt",)), ((), ()), ((), ())])
        self.assertEqual(phials, clean(BENCH))

    def test_refused_with_the_place_0(self):
        for row, kind, fields in BAD:
            self.refused(kind, {"place": 0, **fields}, done, BENCH, BEHIND, row)

    def test_anything(self):
        for thing in ANYTHING:
            self.refused(NoDeed, {"place": 0}, done, BENCH, BEHIND, thing)


class TestWalked(WalkingTest):
    def test_all_of_them(self):
        self.assertEqual(walked(BENCH, clean(BENCH), GOOD), BEHIND)

    def test_no_rows(self):
        phials = list(BEHIND)
        told = walked(BENCH, phials, [])
        self.assertEqual(told, BEHIND)
        spoil(told)
        self.assertEqual(phials, BEHIND)

    def test_refused_with_its_place(self):
        for row, kind, fields in BAD:
            for later in ([], [None], [("rinse", 1)], GOOD):
                rows = GOOD + [row] + later
                self.refused(kind, {"place": 9, **fields}, walked, BENCH, clean(BENCH), rows)
                self.refused(kind, {"place": 9, **fields}, spoilt, BENCH, clean(BENCH), rows)
                self.assertEqual(first_refused(BENCH, clean(BENCH), rows), 9)
            self.refused(kind, {"place": 0, **fields}, walked, BENCH, BEHIND, [row])

    def test_anything_in_the_rows(self):
        for thing in ANYTHING:
            self.refused(NoDeed, {"place": 2}, walked, BENCH, clean(BENCH), GOOD[:2] + [thing] + GOOD[2:])
            self.assertEqual(first_refused(BENCH, clean(BENCH), GOOD[:2] + [thing]), 2)

    def test_two_hundred_rows(self):
        rows = [("draw", 0, "salt", (1, 100))] * 200
        self.assertEqual(walked(BENCH, clean(BENCH), rows)[0][0], (("salt", (2, 1)),))
        self.assertIsNone(first_refused(BENCH, clean(BENCH), rows))
        self.refused(Spilt, {"place": 200, "phial": 0, "over": (1, 1)}, walked, BENCH, clean(BENCH),
                     rows + [("draw", 0, "oil", (1, 1))])
        to_and_fro = [("draw", 0, "salt", (1, 1)), ("draw", 1, "oil", (1, 1))] + [("pour", 0, 1, (1, 3)), ("pour", 1, 0, (1, 2))] * 99
        told = walked(BENCH, clean(BENCH), to_and_fro)
        self.assertIs(fit(BENCH, told), True)
        self.assertEqual(sum([as_fraction(many) for holds, names in told for ware, many in holds]), 2)

    def test_nothing_is_changed(self):
        phials = list(BEHIND)
        rows = [("draw", 0, "wax", (1, 1)), ("pour", 0, 1, (1, 2)), ("rinse", 0)]
        before = (frozen(phials), frozen(rows))
        self.refused(Wet, {"place": 2, "phial": 0}, walked, BENCH, phials, rows)
        first_refused(BENCH, phials, rows)
        spoilt(BENCH, phials, rows[:2])
        first = walked(BENCH, phials, rows[:2])
        told = frozen(first)
        spoil(first)
        self.assertEqual(frozen(walked(BENCH, phials, rows[:2])), told)
        self.assertEqual((frozen(phials), frozen(rows)), before)

    def test_many_rows(self):
        source = random.Random(101)
        for turn in range(150):
            bench = some_bench(source)
            phials = some_phials(source, bench)
            rows, there = rows_that_go(source, bench, phials, 30)
            self.assertEqual(walked(bench, phials, rows), there)
            self.assertIs(fit(bench, there), True)
            self.assertIsNone(first_refused(bench, phials, rows))

    def test_many_rows_that_do_not_go_through(self):
        source = random.Random(102)
        for turn in range(150):
            bench = some_bench(source)
            phials = some_phials(source, bench)
            rows, there = rows_that_go(source, bench, phials, source.randrange(0, 20))
            row = some_deed(source, bench, there)
            if row[0] == "pour" and row[1] == row[2]:
                continue
            due = plain_done(bench, there, row)
            if due[0] == "ok":
                continue
            with self.assertRaises(PhialError) as caught:
                walked(bench, phials, rows + [row] + rows)
            fields = vars(caught.exception)
            self.assertEqual(fields.pop("place"), len(rows))
            self.assertEqual((type(caught.exception).__name__,) + tuple(fields.values()), due)
            self.assertEqual(first_refused(bench, phials, rows + [row] + rows), len(rows))


class TestFirstRefused(WalkingTest):
    def test_none(self):
        self.assertIsNone(first_refused(BENCH, clean(BENCH), []))
        self.assertIsNone(first_refused(BENCH, clean(BENCH), GOOD))


class TestSpoilt(WalkingTest):
    def test_all_that_was_poured_away(self):
        self.assertEqual(spoilt(BENCH, clean(BENCH), GOOD), (("acid", (1, 1)), ("salt", (1, 2)), ("water", (1, 4))))

    def test_nothing(self):
        self.assertEqual(spoilt(BENCH, clean(BENCH), []), ())
        self.assertEqual(spoilt(BENCH, clean(BENCH), GOOD[:3]), ())
        self.assertEqual(spoilt(BENCH, clean(BENCH), [("empty", 0), ("empty", 0), ("rinse", 0)]), ())

    def test_one_phial_emptied_again_and_again(self):
        rows = [("draw", 0, "salt", (1, 3)), ("empty", 0)] * 5
        self.assertEqual(spoilt(BENCH, clean(BENCH), rows), (("salt", (5, 3)),))

    def test_nothing_is_lost(self):
        source = random.Random(103)
        for turn in range(150):
            bench = some_bench(source)
            phials = some_phials(source, bench)
            rows, there = rows_that_go(source, bench, phials, 25)
            came = drawn_in(bench, phials, rows)
            for holds, names in phials:
                added(came, holds)
            left = added({}, spoilt(bench, phials, rows))
            for holds, names in there:
                added(left, holds)
            self.assertEqual(left, came)


if __name__ == "__main__":
    unittest.main()
