"""phialhouse.needs: promises 5.1, 5.2 and 5.4."""

import random
import unittest

from phialhouse.needs import need_of, paper_of, part_at
from samples import all_paths, deep_tree, frozen, full_tree, plain_need, recipe_part, some_tree

SALT = ("ware", "salt", (1, 1))
OIL = ("ware", "oil", (2, 3))
ONE = recipe_part("x", [SALT])
TWO = recipe_part("x", [recipe_part("y", [SALT, OIL]), OIL, recipe_part("x", [OIL])])
THREE = recipe_part("z", [TWO, SALT, recipe_part("z", [TWO])])


class TestPartAt(unittest.TestCase):
    def test_parts(self):
        self.assertEqual(part_at(THREE, ()), THREE)
        self.assertEqual(part_at(THREE, (0,)), TWO)
        self.assertEqual(part_at(THREE, (1,)), SALT)
        self.assertEqual(part_at(THREE, (2, 0)), TWO)
        self.assertEqual(part_at(THREE, (0, 0, 1)), OIL)
        self.assertEqual(part_at(THREE, (2, 0, 2, 0)), OIL)

    def test_all_parts_of_many_trees(self):
        source = random.Random(111)
        for turn in range(40):
            tree = some_tree(source)
            for path, part in all_paths(tree).items():
                self.assertEqual(part_at(tree, path), part)


class TestNeedOf(unittest.TestCase):
    def need_is(self, tree, need):
        self.assertEqual(need_of(tree), need)
        self.assertIs(type(need_of(tree)), int)

    def test_of_a_ware(self):
        self.need_is(SALT, 0)

    def test_of_wares_alone(self):
        self.need_is(ONE, 1)
        self.need_is(recipe_part("x", [SALT, OIL, SALT, SALT]), 1)

    def test_one_recipe_among_wares(self):
        self.need_is(recipe_part("x", [ONE]), 1)
        self.need_is(recipe_part("x", [SALT, ONE, OIL]), 1)
        self.need_is(recipe_part("x", [SALT, TWO]), 2)

    def test_two_of_the_same_need(self):
        self.need_is(recipe_part("x", [ONE, ONE]), 2)
        self.need_is(TWO, 2)
        self.need_is(recipe_part("x", [TWO, TWO]), 3)
        self.need_is(THREE, 3)
        self.need_is(recipe_part("x", [ONE, ONE, ONE, ONE]), 2)

    def test_one_great_and_others_less(self):
        self.need_is(recipe_part("x", [ONE, THREE, ONE, TWO]), 3)
        self.need_is(recipe_part("x", [TWO, TWO, THREE]), 3)
        self.need_is(recipe_part("x", [TWO, THREE, THREE]), 4)
        self.need_is(recipe_part("x", [ONE, TWO, SALT]), 2)

    def test_deep_trees(self):
        self.need_is(deep_tree(40), 1)
        self.need_is(recipe_part("x", [deep_tree(39), deep_tree(20)]), 2)
        self.need_is(recipe_part("x", [deep_tree(39), TWO]), 2)

    def test_full_trees(self):
        for need in range(1, 7):
            self.need_is(full_tree(need), need)

    def test_trees_of_120_parts(self):
        self.need_is(recipe_part("x", [SALT] * 119), 1)
        self.need_is(recipe_part("x", [ONE] * 59 + [OIL]), 2)

    def test_many_trees(self):
        source = random.Random(112)
        for turn in range(150):
            tree = some_tree(source)
            self.need_is(tree, plain_need(tree))


class TestPaperOf(unittest.TestCase):
    def looked_at(self, tree, paper, need):
        self.assertIs(type(paper), tuple)
        path, pair = paper
        part = all_paths(tree)[path]
        self.assertEqual(part[0], "recipe")
        if need == 1:
            self.assertIsNone(pair)
            return
        self.assertIs(type(pair), tuple)
        one, other = pair
        for below in (one, other):
            self.assertEqual(below[0][:len(path)], path)
            self.assertGreater(len(below[0]), len(path))
            self.looked_at(tree, below, need - 1)
        self.assertNotEqual(one[0][len(path)], other[0][len(path)])

    def test_small_ones(self):
        self.assertEqual(paper_of(ONE), ((), None))
        self.assertEqual(paper_of(TWO), ((), (((0,), None), ((2,), None))))

    def test_the_samples(self):
        for tree in (ONE, TWO, THREE, deep_tree(40), recipe_part("x", [SALT] * 119), recipe_part("x", [ONE] * 59),
                     recipe_part("x", [recipe_part("x", [THREE])]), recipe_part("x", [deep_tree(39), deep_tree(39)])):
            self.looked_at(tree, paper_of(tree), need_of(tree))
        for need in range(1, 7):
            self.looked_at(full_tree(need), paper_of(full_tree(need)), need)

    def test_many_trees(self):
        source = random.Random(113)
        for turn in range(150):
            tree = some_tree(source)
            before = frozen(tree)
            self.looked_at(tree, paper_of(tree), plain_need(tree))
            self.assertEqual(frozen(tree), before)


if __name__ == "__main__":
    unittest.main()
