"""phialhouse.plans: promises 9.2 to 9.5."""

import random
import unittest

from phialhouse.orders import left_by, look_at, price
from phialhouse.plans import crowded, planned
from samples import frozen, numbered, spoil


def some_orders(source, days, many):
    found = []
    for number in range(many):
        first = source.randrange(days)
        last = min(days - 1, first + source.choice([0, 0, 1, 2, 5, days]))
        found.append((numbered(number), first, last, source.choice([1, 1, 2, 3, 10, 50])))
    source.shuffle(found)
    return found


def most_turns(orders, turns):
    """The most turns that any plan serves, by augmenting one turn at a time."""
    served = [{} for day in turns]

    def find(name, spans, seen):
        for day in range(spans[name][0], spans[name][1] + 1):
            if day in seen:
                continue
            seen.add(day)
            if sum(served[day].values()) < turns[day]:
                served[day][name] = served[day].get(name, 0) + 1
                return True
            for other in list(served[day]):
                if served[day][other] > 0 and find(other, spans, seen):
                    served[day][other] -= 1
                    served[day][name] = served[day].get(name, 0) + 1
                    return True
        return False
    spans = {order[0]: (order[1], order[2]) for order in orders}
    return sum([find(order[0], spans, set()) for order in orders for turn in range(order[3])])


class PlansTest(unittest.TestCase):
    def looked_at(self, orders, turns):
        before = frozen([orders, turns])
        self.assertEqual(look_at(orders, turns), orders)
        told = planned(orders, turns)
        self.assertEqual([type(part) for part in (told,) + told], [tuple, list, list, list])
        plan, left, paper = told
        self.keeps_to(orders, turns, plan)
        lacking = {order[0]: order[3] - sum([names.count(order[0]) for names in plan]) for order in orders}
        self.assertEqual(left, sorted([(name, many) for name, many in lacking.items() if many > 0]))
        self.assertEqual(left, left_by(orders, plan))
        self.is_paper(turns, paper)
        many = sum([lack for name, lack in left])
        self.assertEqual(price(orders, turns, paper), many)
        self.assertEqual(paper == [], many == 0)
        self.crowd_is(orders, turns, many)
        self.assertEqual(frozen([orders, turns]), before)
        return many

    def keeps_to(self, orders, turns, plan):
        self.assertEqual(len(plan), len(turns))
        days = {order[0]: range(order[1], order[2] + 1) for order in orders}
        for day, names in enumerate(plan):
            self.assertIs(type(names), list)
            self.assertEqual(names, sorted(names))
            self.assertLessEqual(len(names), turns[day])
            for name in names:
                self.assertIn(day, days[name])
        for name, first, last, many in orders:
            self.assertLessEqual(sum([names.count(name) for names in plan]), many)

    def is_paper(self, turns, paper):
        for low, high in paper:
            self.assertTrue(0 <= low <= high < len(turns))
        for one, other in zip(paper, paper[1:]):
            self.assertLessEqual(one[1], other[0] - 2)
        self.assertEqual({type(part) for part in paper} - {tuple}, set())

    def crowd_is(self, orders, turns, many):
        told = crowded(orders, turns)
        if many == 0:
            self.assertIsNone(told)
            return
        low, high, names = told
        self.assertIs(type(told), tuple)
        self.assertEqual(names, sorted([order[0] for order in orders if low <= order[1] and order[2] <= high]))
        self.assertGreater(sum([order[3] for order in orders if order[0] in names]), sum(turns[low:high + 1]))


class TestPlanned(PlansTest):
    def test_no_orders(self):
        self.assertEqual(planned([], [3, 0]), ([[], []], [], []))
        self.assertIsNone(crowded([], [3, 0]))

    def test_all_served(self):
        self.assertEqual(planned([("oa", 0, 1, 2), ("ob", 0, 0, 1)], [2, 1]), ([["oa", "ob"], ["oa"]], [], []))
        self.assertEqual(planned([("oa", 0, 0, 3)], [3]), ([["oa", "oa", "oa"]], [], []))

    def test_whoever_has_less_time_goes_first(self):
        self.assertEqual(self.looked_at([("oa", 0, 2, 2), ("ob", 0, 0, 1), ("oc", 1, 1, 1)], [1, 1, 2]), 0)

    def test_one_turn_too_few(self):
        self.assertEqual(planned([("oa", 0, 0, 4)], [3]), ([["oa", "oa", "oa"]], [("oa", 1)], [(0, 0)]))
        self.assertEqual(crowded([("oa", 0, 0, 4)], [3]), (0, 0, ["oa"]))

    def test_days_without_turns(self):
        self.assertEqual(self.looked_at([("oa", 0, 2, 4), ("ob", 1, 1, 1)], [0, 0, 0]), 5)
        self.assertEqual(self.looked_at([("oa", 0, 2, 4), ("ob", 1, 1, 1)], [0, 9, 0]), 0)
        self.assertEqual(planned([("oa", 0, 1, 1)], [0, 0]), ([[], []], [("oa", 1)], [(0, 1)]))

    def test_several_parts_are_crowded(self):
        orders = [("oa", 0, 1, 5), ("ob", 3, 3, 2), ("oc", 5, 6, 9), ("od", 0, 6, 1), ("oe", 4, 4, 1)]
        turns = [1, 2, 4, 1, 3, 2, 2]
        self.assertEqual(self.looked_at(orders, turns), 2 + 1 + 5)
        self.assertEqual(planned(orders, turns)[2], [(0, 1), (3, 3), (5, 6)])

    def test_parts_side_by_side_are_one(self):
        orders = [("oa", 0, 0, 5), ("ob", 1, 1, 2)]
        self.assertEqual(planned(orders, [1, 1])[2], [(0, 1)])
        self.assertEqual(self.looked_at(orders, [1, 1]), 5)

    def test_the_greatest(self):
        source = random.Random(201)
        for turn in range(10):
            turns = [source.choice([0, 1, 10, 30, 50]) for day in range(60)]
            self.looked_at(some_orders(source, 60, 40), turns)
        self.assertEqual(self.looked_at([(numbered(number), 0, 59, 50) for number in range(40)], [33] * 60), 20)

    def test_many(self):
        source = random.Random(202)
        seen = {True: 0, False: 0}
        for turn in range(300):
            days = source.randrange(1, 12)
            turns = [source.choice([0, 1, 2, 5, 20]) for day in range(days)]
            seen[self.looked_at(some_orders(source, days, source.randrange(0, 9)), turns) == 0] += 1
        self.assertGreater(min(seen.values()), 40)

    def test_no_plan_leaves_fewer(self):
        source = random.Random(203)
        for turn in range(60):
            days = source.randrange(1, 6)
            turns = [source.randrange(0, 4) for day in range(days)]
            orders = [order[:3] + (min(order[3], 4),) for order in some_orders(source, days, source.randrange(0, 6))]
            needed = sum([order[3] for order in orders])
            self.assertEqual(self.looked_at(orders, turns), needed - most_turns(orders, turns))

    def test_the_told_lists_are_the_askers_own(self):
        orders, turns = [("oa", 0, 1, 5), ("ob", 3, 3, 2)], [1, 2, 0, 1]
        for told in (lambda: planned(orders, turns), lambda: crowded(orders, turns)):
            first = told()
            again = frozen(first)
            spoil(first)
            self.assertEqual(frozen(told()), again)


if __name__ == "__main__":
    unittest.main()
