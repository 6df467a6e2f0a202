"""phialhouse.making: promises 5.6 and 5.7."""

import random
import unittest
from fractions import Fraction

from phialhouse.errors import Few, Touch
from phialhouse.making import rows_made
from samples import (BENCH_WARES, all_paths, as_amount, as_fraction, as_mixture, deep_tree, frozen, full_tree, is_apart,
                     plain_done, plain_need, recipe_part, some_phials, some_tree, spoil)

SALT = ("ware", "salt", (1, 1))
OIL = ("ware", "oil", (1, 2))
WAX = ("ware", "wax", (1, 3))
ONE = recipe_part("x", [SALT, OIL])
TWO = recipe_part("y", [ONE, WAX, recipe_part("x", [OIL, SALT])])


def mixed(tree):
    found = {}
    for part in all_paths(tree).values():
        if part[0] == "ware":
            found[part[1]] = found.get(part[1], Fraction(0)) + as_fraction(part[2])
    return found


def ready_ones(bench, phials, tree):
    return [place for place, room in enumerate(bench[0])
            if phials[place][0] == () and as_fraction(room) >= as_fraction(tree[2])]


class MakingTest(unittest.TestCase):
    def looked_at(self, bench, phials, tree):
        before = (frozen(bench), frozen(phials), frozen(tree))
        told = rows_made(bench, phials, tree)
        self.assertEqual((frozen(bench), frozen(phials), frozen(tree)), before)
        self.assertEqual([type(part) for part in (told,) + told], [tuple, list, int, list])
        rows, phial, stands = told
        self.assertLessEqual(len(rows), 200)
        ready = ready_ones(bench, phials, tree)
        self.assertIn(phial, ready)
        there = list(phials)
        behind = []
        for row in rows:
            self.assertIn(row[0], ("draw", "pour", "rinse"))
            if row[0] == "pour":
                self.assertEqual(row[3], (1, 1))
            word, there = plain_done(bench, there, row)[:2]
            self.assertEqual(word, "ok")
            behind.append(there)
            self.assertLessEqual(len([one for one in ready if there[one][0] != ()]), plain_need(tree))
        self.assertEqual(there[phial], (as_mixture(mixed(tree)), tuple(sorted(mixed(tree)))))
        for place in range(len(phials)):
            if place not in ready:
                self.assertEqual(there[place], phials[place])
            elif place != phial:
                self.assertEqual(there[place][0], ())
        self.stands_hold(tree, stands, behind)
        return told

    def stands_hold(self, tree, stands, behind):
        recipes = {path: part for path, part in all_paths(tree).items() if part[0] == "recipe"}
        self.assertEqual([path for path, place, phial in stands], sorted(recipes))
        for path, place, phial in stands:
            self.assertEqual(behind[place][phial][0], as_mixture(mixed(recipes[path])))


class TestRows(MakingTest):
    def test_a_recipe_of_wares(self):
        bench = (((2, 1),), ())
        rows, phial, stands = self.looked_at(bench, [((), ())], ONE)
        self.assertEqual(sorted(rows), [("draw", 0, "oil", (1, 2)), ("draw", 0, "salt", (1, 1))])
        self.assertEqual((phial, stands), (0, [((), 1, 0)]))

    def test_a_recipe_within_one(self):
        bench = (((2, 1),), ())
        rows, phial, stands = self.looked_at(bench, [((), ())], recipe_part("x", [recipe_part("x", [ONE])]))
        self.assertEqual((len(rows), stands), (2, [((), 1, 0), ((0,), 1, 0), ((0, 0), 1, 0)]))

    def test_just_as_many_as_the_need(self):
        self.looked_at((((4, 1), (4, 1)), ()), [((), ())] * 2, TWO)
        self.looked_at((((10 ** 3, 1),) * 6, ()), [((), ())] * 6, full_tree(6))

    def test_a_room_of_just_the_amount(self):
        self.looked_at(((TWO[2], TWO[2]), ()), [((), ())] * 2, TWO)

    def test_more_than_the_need(self):
        self.looked_at((((4, 1),) * 16, ()), [((), ())] * 16, TWO)

    def test_phials_that_hold_something_or_are_too_small(self):
        held = ((("acid", (1, 1)),), ("acid",))
        bench = (((4, 1), (3, 1), (4, 1), (1, 1), (4, 1), (9, 1)), ())
        phials = [held, ((), ("lye",)), ((), ()), ((), ()), held, ((), ("water",))]
        self.looked_at(bench, phials, TWO)

    def test_what_clings_is_rinsed_off(self):
        bench = (((4, 1), (4, 1)), (("acid", "oil"), ("lye", "wax")))
        rows, phial, stands = self.looked_at(bench, [((), ("acid", "lye")), ((), ("lye",))], TWO)
        self.assertEqual(sorted([row for row in rows if row[0] == "rinse"]), [("rinse", 0), ("rinse", 1)])

    def test_other_names_that_may_meet_are_rinsed_off_too(self):
        self.looked_at((((4, 1), (4, 1)), ()), [((), ("acid",)), ((), ("water",))], TWO)

    def test_large_trees(self):
        for tree in (deep_tree(40), recipe_part("x", [SALT] * 119), recipe_part("x", [ONE] * 39), full_tree(6)):
            bench = (((10 ** 4, 1),) * 6, (("acid", "salt"),))
            self.looked_at(bench, [((), ("acid", "lye"))] * 6, tree)

    def test_many_trees(self):
        source = random.Random(131)
        for turn in range(120):
            tree = some_tree(source, most_parts=source.choice([5, 20, 120]))
            self.looked_at(*self.some_bench_for(source, tree), tree)

    def some_bench_for(self, source, tree):
        """Phials of which at least as many are ready as the need, in any places."""
        whole = as_fraction(tree[2])
        rooms = [as_amount(whole * source.choice([1, 2, Fraction(3, 2)])) for number in range(plain_need(tree))]
        rooms += [as_amount(whole * source.choice([1, 2, Fraction(1, 2)])) for number in range(source.randrange(0, 6))]
        pairs = [tuple(sorted(source.sample(BENCH_WARES + ["soot", "tar"], 2))) for number in range(4)]
        bench = (tuple(rooms), tuple(sorted({pair for pair in pairs if not set(pair) <= set(mixed(tree))})))
        phials = some_phials(source, bench)
        for place in range(plain_need(tree)):
            names = source.sample(BENCH_WARES + ["soot", "tar"], 3)
            while is_apart(bench, names):
                names.pop()
            phials[place] = ((), tuple(sorted(names)))
        order = list(range(len(rooms)))
        source.shuffle(order)
        return ((tuple([rooms[place] for place in order]), bench[1]), [phials[place] for place in order])

    def test_the_told_lists_are_the_askers_own(self):
        bench = (((4, 1), (4, 1)), ())
        phials = [((), ()), ((), ())]
        first = rows_made(bench, phials, TWO)
        told = frozen(first)
        spoil(first)
        self.assertEqual(frozen(rows_made(bench, phials, TWO)), told)
        self.assertEqual(phials, [((), ()), ((), ())])


class TestRefused(MakingTest):
    def refused(self, kind, fields, bench, phials, tree):
        before = (frozen(bench), frozen(phials), frozen(tree))
        with self.assertRaises(kind) as caught:
            rows_made(bench, phials, tree)
        self.assertEqual(vars(caught.exception), fields)
        self.assertEqual((frozen(bench), frozen(phials), frozen(tree)), before)

    def test_touch_tells_the_first_pair(self):
        apart = (("acid", "salt"), ("oil", "salt"), ("oil", "wax"), ("salt", "wax"))
        for many in (1, 2, 5):
            bench = (((4, 1),) * many, apart)
            self.refused(Touch, {"place": -1, "phial": -1, "pair": ("oil", "salt")}, bench, [((), ())] * many, TWO)
            self.refused(Touch, {"place": -1, "phial": -1, "pair": ("oil", "wax")}, (bench[0], apart[2:]), [((), ())] * many, TWO)

    def test_touch_ahead_of_few(self):
        bench = (((1, 9),), (("salt", "wax"),))
        self.refused(Touch, {"place": -1, "phial": -1, "pair": ("salt", "wax")}, bench, [((), ())], TWO)

    def test_few(self):
        self.refused(Few, {"need": 2, "ready": 1}, (((4, 1),), ()), [((), ())], TWO)
        self.refused(Few, {"need": 1, "ready": 0}, (((149, 100),), ()), [((), ())], ONE)
        self.refused(Few, {"need": 2, "ready": 1}, (((4, 1), (4, 1), (3, 1)), ()),
                     [((), ()), ((("wax", (1, 1)),), ("wax",)), ((), ())], TWO)
        for need in range(1, 7):
            tree = full_tree(need)
            self.refused(Few, {"need": need, "ready": need - 1}, (((10 ** 3, 1),) * (need - 1) + ((1, 2),), ()),
                         [((), ())] * need, tree)

    def test_pairs_that_only_cling_are_no_refusal(self):
        bench = (((4, 1), (4, 1)), (("acid", "salt"),))
        self.looked_at(bench, [((), ("acid",)), ((), ("acid",))], TWO)


if __name__ == "__main__":
    unittest.main()
