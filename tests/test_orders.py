"""phialhouse.orders: promises 9.1, 9.2 and 9.3."""

import unittest

from phialhouse.errors import NoOrder
from phialhouse.orders import left_by, look_at, price
from samples import ANYTHING, frozen, numbered, spoil

TURNS = [3, 0, 2, 5]
GOOD = [("oa", 0, 3, 1), ("ob", 1, 1, 50), ("oc", 3, 3, 2)]


class TestLookAt(unittest.TestCase):
    def refused(self, orders, place, turns=None):
        before = frozen(orders)
        with self.assertRaises(NoOrder, msg=repr(orders)) as caught:
            look_at(orders, TURNS if turns is None else turns)
        self.assertEqual(caught.exception.place, place)
        self.assertIs(type(caught.exception.place), int)
        self.assertEqual(frozen(orders), before)

    def test_good_ones(self):
        self.assertEqual(look_at(GOOD, TURNS), GOOD)
        self.assertEqual(look_at([], TURNS), [])
        self.assertEqual(look_at([("abcdefgh", 0, 59, 50)], [0] * 60), [("abcdefgh", 0, 59, 50)])
        self.assertEqual(look_at([("z", 0, 0, 1)], [0]), [("z", 0, 0, 1)])

    def test_a_new_list(self):
        orders = list(GOOD)
        told = look_at(orders, TURNS)
        self.assertIs(type(told), list)
        spoil(told)
        self.assertEqual(orders, GOOD)
        self.assertEqual(look_at(orders, TURNS), GOOD)

    def test_anything(self):
        for thing in ANYTHING + [list(GOOD[0]), GOOD[0][:3], GOOD[0] + (1,), ("oz", 0, 0), ("oz", 0, 0, 1, 1)]:
            self.refused([thing], 0)
            self.refused(GOOD + [thing], 3)
            self.refused(GOOD[:1] + [thing] + GOOD[1:], 1)

    def test_names(self):
        for name in ("", "abcdefghi", "Oa", "o a", 1, None, ("oa",), ["oa"], True, b"oa"):
            self.refused(GOOD + [(name, 0, 0, 1)], 3)

    def test_two_of_one_name(self):
        self.refused(GOOD + [("ob", 0, 0, 1), ("oa", 0, 0, 1)], 3)
        self.refused([GOOD[0], GOOD[0], None], 1)

    def test_days(self):
        for first, last in ((0, 4), (4, 4), (-1, 0), (-1, -1), (2, 1), (3, 0), (True, 1), (0, True), (False, 0), (None, 1),
                            (0, None), ("0", 1), (0, "1"), (0.0, 1), (0, 1.0), ((0,), 1), (0, [1]), (10 ** 30, 10 ** 30)):
            self.refused([("oz", first, last, 1)], 0)
            self.refused(GOOD + [("oz", first, last, 1)], 3)
        self.refused([("oa", 0, 1, 1)], 0, [5])

    def test_turns_needed(self):
        for many in (0, -1, 51, 10 ** 30, True, None, "1", 1.0, (1, 1), [1]):
            self.refused(GOOD + [("oz", 0, 0, many)], 3)

    def test_forty_and_forty_one(self):
        orders = [(numbered(number), 0, 3, 1) for number in range(42)]
        self.assertEqual(look_at(orders[:40], TURNS), orders[:40])
        self.refused(orders[:41], 40)
        self.refused(orders, 40)
        self.refused(orders[:40] + [None], 40)
        self.refused(orders[:39] + [None] + orders[39:], 39)


class TestLeftBy(unittest.TestCase):
    def test_what_a_plan_leaves(self):
        orders = [("oc", 0, 1, 3), ("oa", 0, 1, 2), ("ob", 0, 0, 1)]
        self.assertEqual(left_by(orders, [[], []]), [("oa", 2), ("ob", 1), ("oc", 3)])
        self.assertEqual(left_by(orders, [["oa", "ob", "oc"], ["oa", "oc"]]), [("oc", 1)])
        self.assertEqual(left_by(orders, [["oa", "oa", "ob", "oc"], ["oc", "oc"]]), [])
        self.assertEqual(left_by([], [[], []]), [])

    def test_nothing_is_changed(self):
        orders, plan = [("oc", 0, 1, 3), ("oa", 0, 1, 2)], [["oa"], []]
        before = frozen([orders, plan])
        spoil(left_by(orders, plan))
        self.assertEqual(frozen([orders, plan]), before)
        self.assertEqual(left_by(orders, plan), [("oa", 1), ("oc", 3)])


class TestPrice(unittest.TestCase):
    def test_prices(self):
        orders = [("oa", 0, 1, 9), ("ob", 1, 1, 4), ("oc", 3, 3, 2), ("od", 1, 3, 7)]
        self.assertEqual(price(orders, TURNS, []), 0)
        self.assertEqual(price(orders, TURNS, [(1, 1)]), 4)
        self.assertEqual(price(orders, TURNS, [(0, 1)]), 10)
        self.assertEqual(price(orders, TURNS, [(0, 0)]), -3)
        self.assertEqual(price(orders, TURNS, [(0, 1), (3, 3)]), 10 - 3)
        self.assertEqual(price(orders, TURNS, [(1, 3)]), 13 - 7)
        self.assertEqual(price(orders, TURNS, [(0, 3)]), 22 - 10)
        self.assertEqual(price([], TURNS, [(0, 3)]), -10)

    def test_nothing_is_changed(self):
        orders, paper = [("oa", 0, 1, 9)], [(0, 1)]
        before = frozen([orders, TURNS, paper])
        price(orders, TURNS, paper)
        self.assertEqual(frozen([orders, TURNS, paper]), before)


if __name__ == "__main__":
    unittest.main()
