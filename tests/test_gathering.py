"""phialhouse.gathering: promises 6.3, 6.4 and 6.5."""

import random
import unittest

from phialhouse.errors import Dry, NoDeed, Spilt
from phialhouse.gathering import gathered, shortened
from phialhouse.walking import walked
from samples import as_amount, as_fraction, frozen, rows_that_go, some_bench, some_phials, spoil
from test_thinning import plainly_serves

BENCH = (((20, 1), (20, 1), (20, 1)), (("acid", "lye"),))
CLEAN = [((), ()), ((), ()), ((), ())]


def draw(phial, ware, top, bottom=1):
    return ("draw", phial, ware, (top, bottom))


def names_phial(row, phial):
    return phial in (row[1], row[2]) if row[0] == "pour" else row[1] == phial


def neighbours(rows):
    """The first two places of neighbours by 6.3, or None."""
    for one, row in enumerate(rows):
        if row[0] == "draw":
            later = [place for place in range(one + 1, len(rows)) if names_phial(rows[place], row[1])]
            if later and rows[later[0]][:3] == row[:3]:
                return (one, later[0])
    return None


def plainly_gathered(rows):
    """Two neighbours made one, so long as there are some."""
    rows = list(rows)
    found = neighbours(rows)
    while found:
        one, other = found
        rows[one] = rows[one][:3] + (as_amount(as_fraction(rows[one][3]) + as_fraction(rows[other][3])),)
        rows = rows[:other] + rows[other + 1:]
        found = neighbours(rows)
    return rows


def many_draws(source, bench, phials, many):
    """Rows that go through, with many draws that are neighbours or nearly so."""
    rows = []
    for row in rows_that_go(source, bench, phials, many)[0]:
        rows.append(row)
        if row[0] == "draw" and source.random() < 0.7:
            half = as_amount(as_fraction(row[3]) / 2)
            rows[-1] = row[:3] + (half,)
            rows.insert(source.randrange(max(0, len(rows) - 3), len(rows) + 1), row[:3] + (half,))
    return rows


class TestGathered(unittest.TestCase):
    def gathers(self, rows, told):
        before = frozen(rows)
        found = gathered(BENCH, CLEAN, rows)
        self.assertEqual(found, told)
        self.assertIs(type(found), list)
        self.assertEqual(frozen(rows), before)
        self.assertEqual(walked(BENCH, CLEAN, found), walked(BENCH, CLEAN, rows))
        self.assertEqual(gathered(BENCH, CLEAN, found), told)

    def test_no_rows(self):
        self.gathers([], [])

    def test_right_behind_one_another(self):
        self.gathers([draw(0, "oil", 1), draw(0, "oil", 1, 2)], [draw(0, "oil", 3, 2)])
        self.gathers([draw(0, "oil", 1), draw(0, "oil", 1, 2), draw(0, "oil", 1, 3), draw(0, "oil", 1, 6)], [draw(0, "oil", 2)])

    def test_rows_between_that_do_not_name_the_phial(self):
        between = [draw(1, "wax", 2), ("pour", 1, 2, (1, 2)), ("fill", 2, "oil", (3, 1)), ("empty", 2), ("rinse", 2)]
        self.gathers([draw(0, "oil", 1)] + between + [draw(0, "oil", 1)], [draw(0, "oil", 2)] + between)

    def test_rows_between_that_name_it(self):
        ahead = [draw(1, "oil", 1), draw(0, "oil", 1)]
        for between in (("pour", 0, 1, (1, 2)), ("pour", 1, 0, (1, 2)), ("empty", 0), ("fill", 0, "oil", (2, 1)),
                        draw(0, "wax", 1)):
            self.gathers(ahead + [between, draw(0, "oil", 1)], ahead + [between, draw(0, "oil", 1)])
        rows = ahead + [("empty", 0), ("rinse", 0), draw(0, "oil", 1)]
        self.gathers(rows, rows)

    def test_other_phials_and_wares_between(self):
        self.gathers([draw(0, "oil", 1), draw(1, "oil", 1), draw(0, "oil", 1), draw(1, "oil", 1)],
                     [draw(0, "oil", 2), draw(1, "oil", 2)])
        self.gathers([draw(0, "oil", 1), draw(1, "wax", 1), draw(0, "oil", 1), draw(1, "oil", 1), draw(0, "oil", 5)],
                     [draw(0, "oil", 7), draw(1, "wax", 1), draw(1, "oil", 1)])
        rows = [draw(0, "oil", 1), draw(0, "wax", 1), draw(0, "oil", 1), draw(0, "wax", 1)]
        self.gathers(rows, rows)

    def test_rows_of_draws_parted_by_a_row(self):
        self.gathers([draw(0, "oil", 1), draw(0, "oil", 1), ("pour", 0, 1, (1, 2)), draw(0, "oil", 1), draw(2, "wax", 1),
                      draw(0, "oil", 2)],
                     [draw(0, "oil", 2), ("pour", 0, 1, (1, 2)), draw(0, "oil", 3), draw(2, "wax", 1)])

    def test_fills_are_no_draws(self):
        rows = [("fill", 0, "oil", (1, 1)), draw(0, "oil", 1), ("fill", 0, "oil", (3, 1))]
        self.gathers(rows, rows)

    def test_many_rows(self):
        source = random.Random(151)
        fewer = 0
        for turn in range(200):
            bench = some_bench(source)
            phials = some_phials(source, bench)
            rows = many_draws(source, bench, phials, 20)
            try:
                behind = walked(bench, phials, rows)
            except ValueError:
                continue
            told = gathered(bench, phials, rows)
            self.assertEqual(told, plainly_gathered(rows))
            self.assertEqual(walked(bench, phials, told), behind)
            fewer += len(told) < len(rows)
        self.assertGreater(fewer, 60)


class TestShortened(unittest.TestCase):
    def looked_at(self, bench, phials, rows, goal):
        before = frozen([bench, phials, rows])
        told = shortened(bench, phials, rows, goal)
        self.assertEqual(frozen([bench, phials, rows]), before)
        self.assertIs(type(told), list)
        self.assertLessEqual(len(told), len(rows))
        self.assertIsNone(neighbours(told))
        self.assertTrue(plainly_serves(bench, phials, rows, told, goal))
        for place in range(len(told)):
            self.assertFalse(plainly_serves(bench, phials, rows, told[:place] + told[place + 1:], goal))
        return told

    def test_no_rows(self):
        self.assertEqual(shortened(BENCH, CLEAN, [], 0), [])

    def test_gathered_and_thinned(self):
        rows = [draw(0, "oil", 1), draw(1, "wax", 1), draw(0, "oil", 1), ("empty", 1)]
        self.assertEqual(self.looked_at(BENCH, CLEAN, rows, 0), [draw(0, "oil", 2)])
        self.assertEqual(self.looked_at(BENCH, CLEAN, rows, 2), [])

    def test_thinning_makes_new_neighbours(self):
        # The first fill is idle, since the second one levels it out; without it the draws ahead and behind are neighbours.
        rows = [draw(0, "wax", 1), ("fill", 0, "oil", (2, 1)), draw(0, "wax", 1), ("fill", 0, "oil", (5, 1))]
        self.assertEqual(gathered(BENCH, CLEAN, rows), rows)
        self.assertEqual(self.looked_at(BENCH, CLEAN, rows, 0), [draw(0, "wax", 2), ("fill", 0, "oil", (5, 1))])
        poured = [("draw", 1) + row[2:] if row[0] == "draw" else ("fill", 1) + row[2:] for row in rows]
        poured += [draw(0, "oil", 1), ("pour", 1, 0, (1, 2)), draw(0, "oil", 1)]
        self.assertEqual(self.looked_at(BENCH, CLEAN, poured, 0),
                         [draw(1, "wax", 2), ("fill", 1, "oil", (5, 1))] + poured[4:])

    def test_rows_of_all_kinds(self):
        rows = [draw(0, "oil", 1), ("pour", 0, 1, (1, 1)), ("rinse", 0), draw(0, "oil", 1), draw(1, "oil", 1)]
        self.looked_at(BENCH, CLEAN, rows, 1)
        rows = [draw(0, "oil", 1), draw(2, "wax", 1), ("pour", 2, 0, (1, 1)), ("empty", 0), draw(0, "oil", 1), ("empty", 2),
                draw(0, "oil", 1)]
        self.assertEqual(self.looked_at(BENCH, CLEAN, rows, 0), [draw(0, "oil", 2)])
        rows = [draw(0, "oil", 1), ("empty", 1), draw(1, "wax", 1), ("rinse", 2), draw(0, "oil", 1)]
        self.assertEqual(self.looked_at(BENCH, CLEAN, rows, 0), [draw(0, "oil", 2)])

    def test_against_the_rows_that_were_given_at_first(self):
        rows = [draw(0, "wax", 1), ("empty", 0), draw(0, "oil", 1)]
        phials = [((), ("wax",)), ((), ()), ((), ())]
        self.assertEqual(self.looked_at(BENCH, phials, rows, 0), [draw(0, "oil", 1)])
        self.assertEqual(self.looked_at(BENCH, phials, [("rinse", 0)] + rows, 0), [draw(0, "oil", 1)])
        self.assertEqual(self.looked_at(BENCH, phials, [("rinse", 0), draw(0, "oil", 1)], 0), [("rinse", 0), draw(0, "oil", 1)])

    def test_many_rows(self):
        source = random.Random(152)
        shorter = 0
        for turn in range(200):
            bench = some_bench(source)
            phials = some_phials(source, bench)
            rows = many_draws(source, bench, phials, 20)[:40]
            try:
                walked(bench, phials, rows)
            except ValueError:
                continue
            shorter += len(self.looked_at(bench, phials, rows, source.randrange(len(phials)))) < len(rows)
        self.assertGreater(shorter, 60)

    def test_the_told_lists_are_the_askers_own(self):
        rows = [draw(0, "oil", 1), draw(1, "wax", 1)]
        for told in (lambda: gathered(BENCH, CLEAN, rows), lambda: shortened(BENCH, CLEAN, rows, 0)):
            first = told()
            before = frozen(first)
            spoil(first)
            self.assertEqual(frozen(told()), before)
        self.assertEqual(rows, [draw(0, "oil", 1), draw(1, "wax", 1)])


class TestRefused(unittest.TestCase):
    def test_rows_that_do_not_go_through(self):
        for rows, kind, place in [([draw(0, "oil", 1), ("pour", 1, 0, (1, 1))], Dry, 1),
                                  ([draw(0, "oil", 19), draw(0, "oil", 1), draw(0, "oil", 1)], Spilt, 2),
                                  ([draw(0, "oil", 1), draw(0, "oil", 1), ["rinse", 0]], NoDeed, 2), ([None], NoDeed, 0)]:
            for told in (lambda: gathered(BENCH, CLEAN, rows), lambda: shortened(BENCH, CLEAN, rows, 0)):
                with self.assertRaises(kind) as caught:
                    told()
                self.assertEqual(caught.exception.place, place)


if __name__ == "__main__":
    unittest.main()
