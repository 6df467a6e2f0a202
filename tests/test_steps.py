"""phialhouse.steps: promises 5.3 and 5.5."""

import random
import unittest

from phialhouse.steps import steps_of, width_of
from samples import all_paths, deep_tree, frozen, full_tree, plain_need, recipe_part, some_tree, spoil

SALT = ("ware", "salt", (1, 1))
ONE = recipe_part("x", [SALT])
TWO = recipe_part("x", [ONE, ONE])


def let_be_done(parts, having, there):
    """All steps that 5.3 lets be done, where recipes having a phial and parts that are there are told."""
    found = []
    for path, part in parts.items():
        if path == () or path in there:
            continue
        if part[0] == "ware":
            found.append(("put", path))
        elif all([path + (place,) in there for place in range(len(part[3]))]):
            found.append(("join" if path[:-1] in having else "keep", path))
    return found


def after(having, there, step):
    word, path = step
    having = having | {path[:-1]}
    return (having - {path}, there | {path})


def walked_steps(tree, steps):
    """Does the steps one by one; the width, or None where one may not be done or the tree is not whole."""
    parts = all_paths(tree)
    having, there, width = frozenset(), frozenset(), 0
    for step in steps:
        if step not in let_be_done(parts, having, there):
            return None
        having, there = after(having, there, step)
        width = max(width, len(having))
    return width if len(there) == len(parts) - 1 else None


def least_width(tree):
    """The least width of all rows of steps, by trying them all."""
    parts = all_paths(tree)
    for width in range(1, len(parts) + 1):
        seen = set()
        waiting = [(frozenset(), frozenset())]
        while waiting:
            state = waiting.pop()
            if len(state[1]) == len(parts) - 1:
                return width
            for step in let_be_done(parts, *state):
                behind = after(*state, step)
                if len(behind[0]) <= width and behind not in seen:
                    seen.add(behind)
                    waiting.append(behind)
    return None


def any_steps(source, tree):
    """Some row of steps that makes the tree, perhaps wider than need be."""
    parts = all_paths(tree)
    having, there, steps = frozenset(), frozenset(), []
    free = let_be_done(parts, having, there)
    while free:
        steps.append(source.choice(free))
        having, there = after(having, there, steps[-1])
        free = let_be_done(parts, having, there)
    return steps


class TestStepsOf(unittest.TestCase):
    def looked_at(self, tree):
        steps = steps_of(tree)
        self.assertIs(type(steps), list)
        self.assertEqual({type(step) for step in steps}, {tuple})
        self.assertEqual(walked_steps(tree, steps), plain_need(tree))
        self.assertEqual(sorted([path for word, path in steps]), sorted([path for path in all_paths(tree) if path != ()]))
        self.assertEqual(width_of(tree, steps), plain_need(tree))

    def test_small_ones(self):
        self.assertEqual(steps_of(ONE), [("put", (0,))])
        self.assertEqual(steps_of(recipe_part("x", [ONE])), [("put", (0, 0)), ("keep", (0,))])
        for tree in (ONE, TWO, recipe_part("x", [SALT, TWO, SALT]), recipe_part("x", [ONE, SALT, TWO, TWO, ONE])):
            self.looked_at(tree)

    def test_large_ones(self):
        for tree in (deep_tree(40), recipe_part("x", [SALT] * 119), recipe_part("x", [ONE] * 59 + [SALT]), full_tree(6),
                     recipe_part("x", [deep_tree(39), deep_tree(20)])):
            self.looked_at(tree)

    def test_many_trees(self):
        source = random.Random(121)
        for turn in range(120):
            self.looked_at(some_tree(source))

    def test_no_row_of_steps_does_with_less(self):
        source = random.Random(122)
        seen = set()
        for turn in range(60):
            tree = some_tree(source, most_parts=9)
            if len(all_paths(tree)) <= 11:
                self.assertEqual(least_width(tree), plain_need(tree))
                seen.add(plain_need(tree))
        self.assertEqual(least_width(recipe_part("x", [TWO, TWO])), 3)
        self.assertEqual(seen & {1, 2}, {1, 2})

    def test_nothing_is_changed(self):
        tree = some_tree(random.Random(123))
        before = frozen(tree)
        first = steps_of(tree)
        told = frozen(first)
        spoil(first)
        self.assertEqual(frozen(steps_of(tree)), told)
        self.assertEqual(frozen(tree), before)


class TestWidthOf(unittest.TestCase):
    def test_wider_ones(self):
        wide = [("put", (0, 0)), ("put", (1, 0)), ("put", (2, 0)), ("keep", (1,)), ("join", (0,)), ("join", (2,))]
        self.assertEqual(width_of(recipe_part("x", [ONE, ONE, ONE]), wide), 3)
        tree = recipe_part("x", [SALT, ONE])
        self.assertEqual(width_of(tree, [("put", (0,)), ("put", (1, 0)), ("join", (1,))]), 2)
        self.assertEqual(width_of(tree, [("put", (1, 0)), ("put", (0,)), ("join", (1,))]), 2)
        self.assertEqual(width_of(tree, [("put", (1, 0)), ("keep", (1,)), ("put", (0,))]), 1)

    def test_any_steps(self):
        source = random.Random(124)
        wider = 0
        for turn in range(100):
            tree = some_tree(source, most_parts=40)
            steps = any_steps(source, tree)
            before = frozen(steps)
            self.assertEqual(width_of(tree, steps), walked_steps(tree, steps))
            self.assertGreaterEqual(width_of(tree, steps), plain_need(tree))
            wider += width_of(tree, steps) > plain_need(tree)
            self.assertEqual(frozen(steps), before)
        self.assertGreater(wider, 30)


if __name__ == "__main__":
    unittest.main()
