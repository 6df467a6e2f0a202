"""phialhouse.spread: promise 7.4."""

import random
import unittest

from phialhouse.errors import TooMany
from phialhouse.spread import spread, way_to
from samples import frozen, spoil


def never(node):
    return False


def by_one_or_double(node):
    return [("one", node + 1), ("double", node * 2), ("stay", node)]


def plainly_spread(first, graph, goal, deepest):
    """The rows by 7.4, where the steps are a dict of lists."""
    rows = [(first, 0, None, None)]
    if first == goal:
        return (rows, 0)
    for place in range(10 ** 6):
        if place == len(rows):
            return (rows, None)
        node, depth = rows[place][:2]
        if depth < deepest:
            for deed, after in graph.get(node, []):
                if after not in [row[0] for row in rows]:
                    rows.append((after, depth + 1, place, deed))
                    if after == goal:
                        return (rows, len(rows) - 1)


class TestSpread(unittest.TestCase):
    def test_the_first_row_is_sought(self):
        self.assertEqual(spread(3, by_one_or_double, lambda node: node == 3), ([(3, 0, None, None)], 0))
        self.assertEqual(spread(3, by_one_or_double, lambda node: True, 0, 1), ([(3, 0, None, None)], 0))

    def test_rows_in_the_order_in_which_they_are_taken_up(self):
        self.assertEqual(spread(1, by_one_or_double, lambda node: node == 6), ([
            (1, 0, None, None), (2, 1, 0, "one"), (3, 2, 1, "one"), (4, 2, 1, "double"), (6, 3, 2, "double")], 4))

    def test_a_node_reached_twice_has_the_row_of_the_first_way(self):
        graph = {"a": [("ab", "b"), ("ac", "c")], "b": [("bd", "d")], "c": [("cd", "d"), ("ca", "a"), ("ce", "e")]}
        told = spread("a", lambda node: graph.get(node, []), never)
        self.assertEqual(told, ([("a", 0, None, None), ("b", 1, 0, "ab"), ("c", 1, 0, "ac"), ("d", 2, 1, "bd"),
                                 ("e", 2, 2, "ce")], None))

    def test_nothing_sought_and_nowhere_to_go(self):
        self.assertEqual(spread((), lambda node: [], never), ([((), 0, None, None)], None))

    def test_deepest(self):
        self.assertEqual(spread(1, by_one_or_double, never, 0), ([(1, 0, None, None)], None))
        self.assertEqual(spread(1, by_one_or_double, never, 1), ([(1, 0, None, None), (2, 1, 0, "one")], None))
        self.assertEqual(len(spread(1, by_one_or_double, never, deepest=2)[0]), 4)
        self.assertEqual(spread(1, by_one_or_double, lambda node: node == 4, 1)[1], None)
        self.assertEqual(spread(1, by_one_or_double, lambda node: node == 4, 2)[1], 3)

    def test_deepest_left_out_is_60(self):
        line = spread(0, lambda node: [("on", node + 1)], never)
        self.assertEqual((len(line[0]), line[0][-1]), (61, (60, 60, 59, "on")))
        self.assertEqual(spread(0, lambda node: [("on", node + 1)], lambda node: node == 60)[1], 60)
        self.assertIsNone(spread(0, lambda node: [("on", node + 1)], lambda node: node == 61)[1])

    def test_steps_are_asked_only_of_what_is_taken_up(self):
        asked = []

        def steps(node):
            asked.append(node)
            return by_one_or_double(node)
        spread(1, steps, never, 2)
        self.assertEqual(asked, [1, 2])

    def test_nodes_of_all_kinds(self):
        for nodes in ([5, -7, 10 ** 40], ["", "a", "b"], [(), ((),), (1, ("a", (2, 3)))], [1, "1", (1,)]):
            told = spread(nodes[0], lambda node: [("to", other) for other in nodes], never)
            self.assertEqual(told, ([(nodes[0], 0, None, None), (nodes[1], 1, 0, "to"), (nodes[2], 1, 0, "to")], None))

    def test_deeds_of_all_kinds(self):
        told = spread(0, lambda node: [(("off", 3), node + 1), (None, node + 2)], never, 1)
        self.assertEqual(told[0], [(0, 0, None, None), (1, 1, 0, ("off", 3)), (2, 1, 0, None)])

    def test_many_spreads(self):
        source = random.Random(161)
        for turn in range(200):
            nodes = [(number, str(number)) for number in range(source.randrange(1, 25))]
            graph = {node: [(("deed", source.randrange(3)), source.choice(nodes)) for number in range(source.randrange(0, 4))]
                     for node in nodes}
            goal = source.choice(nodes + [None] * 5)
            deepest = source.choice([0, 1, 2, 3, 60])
            before = frozen(list(graph.items()))
            told = spread(nodes[0], lambda node: graph[node], lambda node: node == goal, deepest)
            self.assertEqual(told, plainly_spread(nodes[0], graph, goal, deepest))
            self.assertEqual(frozen(list(graph.items())), before)
            self.ways_lead(graph, told[0])

    def ways_lead(self, graph, rows):
        for place, row in enumerate(rows):
            way = way_to(rows, place)
            self.assertEqual(len(way), row[1])
            reached = [rows[0][0]]
            for deed in way:
                reached = [after for node in reached for step, after in graph[node] if step == deed]
            self.assertIn(row[0], reached)

    def test_the_rows_are_the_askers_own(self):
        first = spread(1, by_one_or_double, never, 3)
        told = frozen(first)
        spoil(first)
        self.assertEqual(frozen(spread(1, by_one_or_double, never, 3)), told)
        self.assertEqual((type(first), type(first[0])), (tuple, list))


class TestTooMany(unittest.TestCase):
    def refused(self, most, *given):
        with self.assertRaises(TooMany) as caught:
            spread(*given)
        self.assertEqual(caught.exception.most, most)

    def test_just_the_most_and_one_more(self):
        many = len(spread(1, by_one_or_double, never, 5)[0])
        self.assertEqual(len(spread(1, by_one_or_double, never, 5, many)[0]), many)
        self.refused(many - 1, 1, by_one_or_double, never, 5, many - 1)
        self.refused(1, 1, by_one_or_double, never, 5, 1)

    def test_a_sought_row_just_at_the_most(self):
        self.assertEqual(spread(1, by_one_or_double, lambda node: node == 6, 60, 5)[1], 4)
        self.refused(4, 1, by_one_or_double, lambda node: node == 6, 60, 4)

    def test_most_left_out_is_2000(self):
        steps = [("to", number) for number in range(1, 2001)]
        self.assertEqual(len(spread(0, lambda node: steps[:1999], never)[0]), 2000)
        self.refused(2000, 0, lambda node: steps, never)

    def test_five_thousand(self):
        steps = [("to", number) for number in range(1, 5001)]
        self.assertEqual(len(spread(0, lambda node: steps[:4999], never, 60, 5000)[0]), 5000)
        self.refused(5000, 0, lambda node: steps, never, 60, 5000)


class TestWayTo(unittest.TestCase):
    def test_ways(self):
        rows = spread(1, by_one_or_double, never, 3)[0]
        self.assertEqual(way_to(rows, 0), [])
        self.assertEqual(way_to(rows, 3), ["one", "double"])
        place = [row[0] for row in rows].index(8)
        self.assertEqual(way_to(rows, place), ["one", "double", "double"])

    def test_deeds_that_are_none(self):
        rows = spread(0, lambda node: [(None, node + 1)], never, 3)[0]
        self.assertEqual(way_to(rows, 3), [None, None, None])

    def test_a_deep_one(self):
        rows = spread(0, lambda node: [(node, node + 1)], never)[0]
        self.assertEqual(way_to(rows, 60), list(range(60)))

    def test_a_new_list_each_time(self):
        rows = spread(1, by_one_or_double, never, 3)[0]
        before = frozen(rows)
        spoil(way_to(rows, 3))
        spoil(way_to(rows, 0))
        self.assertEqual(way_to(rows, 3), ["one", "double"])
        self.assertEqual(way_to(rows, 0), [])
        self.assertEqual(frozen(rows), before)


if __name__ == "__main__":
    unittest.main()
