"""phialhouse.strengths: promises 7.1, 7.2, 7.3 and 7.5."""

import random
import unittest
from fractions import Fraction

from phialhouse.errors import TooMany
from phialhouse.strengths import asked_for, steps_from, strength
from samples import as_amount, as_fraction, frozen, spoil

EMPTY = (0, (0, 1))


def plain_steps(measures, room, mixing):
    full, strong = mixing[0], as_fraction(mixing[1])
    found = [(("strong", measure), (full + measure, strong + measure)) for measure in measures if full + measure <= room]
    found += [(("thin", measure), (full + measure, strong)) for measure in measures if full + measure <= room]
    found += [(("off", measure), (full - measure, strong * (full - measure) / full)) for measure in measures if measure <= full]
    return [(deed, (much, as_amount(part))) for deed, (much, part) in found]


def by_depth(measures, room, deepest):
    """All mixings that so many deeds can make, with the fewest deeds each."""
    found = {EMPTY: 0}
    for depth in range(1, deepest + 1):
        for mixing in [one for one in found if found[one] == depth - 1]:
            for deed, after in plain_steps(measures, room, mixing):
                found.setdefault(after, depth)
    return found


def done(measures, room, way):
    mixing = EMPTY
    for deed in way:
        mixing = dict(plain_steps(measures, room, mixing))[deed]
    return mixing


class TestStepsFrom(unittest.TestCase):
    def test_the_empty_mixing(self):
        self.assertEqual(steps_from([2, 3], 5, EMPTY), [(("strong", 2), (2, (2, 1))), (("strong", 3), (3, (3, 1))),
                                                        (("thin", 2), (2, (0, 1))), (("thin", 3), (3, (0, 1)))])

    def test_a_full_one(self):
        self.assertEqual(steps_from([2, 3], 5, (5, (2, 1))), [(("off", 2), (3, (6, 5))), (("off", 3), (2, (4, 5)))])

    def test_one_between(self):
        self.assertEqual(steps_from([1, 2, 3], 5, (3, (3, 2))), [
            (("strong", 1), (4, (5, 2))), (("strong", 2), (5, (7, 2))), (("thin", 1), (4, (3, 2))), (("thin", 2), (5, (3, 2))),
            (("off", 1), (2, (1, 1))), (("off", 2), (1, (1, 2))), (("off", 3), EMPTY)])

    def test_just_at_the_room(self):
        self.assertEqual(steps_from([2], 2, EMPTY), [(("strong", 2), (2, (2, 1))), (("thin", 2), (2, (0, 1)))])
        self.assertEqual(steps_from([3], 2, EMPTY), [])
        self.assertEqual(steps_from([1000], 10000, (9000, (1, 3)))[0], (("strong", 1000), (10000, (3001, 3))))
        self.assertEqual([deed for deed, mixing in steps_from([1000], 10000, (9001, (1, 3)))], [("off", 1000)])

    def test_off_of_the_whole(self):
        self.assertEqual(steps_from([4], 4, (4, (7, 3))), [(("off", 4), EMPTY)])

    def test_many(self):
        source = random.Random(171)
        for turn in range(300):
            measures = sorted(source.sample(range(1, source.choice([8, 1001])), source.randrange(1, 7)))
            room = source.randrange(1, 10001)
            full = source.choice([0, room, source.randrange(0, room + 1)])
            mixing = (full, as_amount(Fraction(source.randrange(0, 10 ** 9), 10 ** 9) * full))
            before = list(measures)
            told = steps_from(measures, room, mixing)
            self.assertEqual(told, plain_steps(measures, room, mixing))
            spoil(told)
            self.assertEqual(measures, before)
            self.assertEqual(steps_from(measures, room, mixing), plain_steps(measures, room, mixing))


class TestStrength(unittest.TestCase):
    def test_from_0_to_1(self):
        self.assertEqual(strength((3, (0, 1))), (0, 1))
        self.assertEqual(strength((3, (3, 1))), (1, 1))
        self.assertEqual(strength((4, (2, 1))), (1, 2))
        self.assertEqual(strength((3, (6, 5))), (2, 5))
        self.assertEqual(strength((10000, (1, 3))), (1, 30000))


class TestAskedFor(unittest.TestCase):
    def looked_at(self, measures, room, one, least=1, deepest=6):
        word, told = asked_for(measures, room, one, least, deepest, 5000)
        there = by_depth(measures, room, deepest)
        wide = {mixing: depth for mixing, depth in there.items() if mixing[0] >= least}
        fitting = [depth for mixing, depth in wide.items() if as_fraction(mixing[1]) / mixing[0] == as_fraction(one)]
        if fitting:
            self.assertEqual(word, "made")
            self.assertEqual(len(told), min(fitting))
            much, strong = done(measures, room, told)
            self.assertGreaterEqual(much, least)
            self.assertEqual(as_fraction(strong) / much, as_fraction(one))
        else:
            self.assertEqual(word, "none")
            self.assertEqual([as_fraction(part) for part in told],
                             sorted({as_fraction(strong) / much for much, strong in wide}))
            self.assertEqual([as_amount(as_fraction(part)) for part in told], told)
        self.assertIs(type(told), list)
        return word

    def test_0_and_1(self):
        self.assertEqual(asked_for([2, 3], 5, (0, 1)), ("made", [("thin", 2)]))
        self.assertEqual(asked_for([2, 3], 5, (1, 1)), ("made", [("strong", 2)]))

    def test_the_fewest_deeds(self):
        self.assertEqual(asked_for([1, 3], 4, (1, 4)), ("made", [("strong", 1), ("thin", 3)]))
        self.assertEqual(asked_for([2, 3], 5, (2, 5)), ("made", [("strong", 2), ("thin", 3)]))
        self.assertEqual(len(asked_for([3], 6, (1, 4))[1]), 4)
        self.looked_at([3], 6, (1, 4))

    def test_least_above_1(self):
        self.assertEqual(asked_for([1, 2], 5, (1, 1), 3), ("made", [("strong", 1), ("strong", 2)]))
        self.assertEqual(asked_for([1, 2], 5, (1, 2), least=4)[0], "made")
        self.looked_at([1, 2], 5, (1, 2), 4)
        self.looked_at([1, 2], 5, (1, 2), 5)
        self.assertEqual(asked_for([2], 5, (1, 2), 5), ("none", []))

    def test_deepest_0(self):
        self.assertEqual(asked_for([2, 3], 5, (0, 1), 1, 0), ("none", []))
        self.assertEqual(asked_for([2, 3], 5, (1, 1), deepest=0), ("none", []))

    def test_a_measure_beyond_the_room(self):
        self.assertEqual(asked_for([7], 5, (1, 1)), ("none", []))

    def test_none_tells_all_strengths(self):
        self.assertEqual(asked_for([1, 2], 3, (1, 5), 1, 2), ("none", [(0, 1), (1, 3), (1, 2), (2, 3), (1, 1)]))
        self.assertEqual(asked_for([1], 2, (1, 3), 1, 2), ("none", [(0, 1), (1, 2), (1, 1)]))
        self.assertEqual(asked_for([1], 2, (1, 3), 2, 2), ("none", [(0, 1), (1, 2), (1, 1)]))
        self.assertEqual(asked_for([1], 1, (1, 3), 1, 60), ("none", [(0, 1), (1, 1)]))

    def test_deepest_left_out_is_6(self):
        # One spoon out of eight, poured off by halves again and again: just six deeds are let.
        for bottom, word in ((2, "made"), (4, "made"), (8, "made"), (16, "none")):
            told = asked_for([1], 2, (1, bottom), 1, 6)
            self.assertEqual(asked_for([1], 2, (1, bottom)), told)
            self.assertEqual(self.looked_at([1], 2, (1, bottom)), told[0])
            self.assertEqual(told[0], word)
        self.assertEqual(asked_for([1], 2, (1, 16), 1, 8)[0], "made")
        # A ninth in a room of three is made by seven deeds, an eighth by six.
        self.assertEqual(len(asked_for([1], 3, (1, 8))[1]), 6)
        self.assertEqual(asked_for([1], 3, (1, 9))[0], "none")
        self.assertEqual(len(asked_for([1], 3, (1, 9), 1, 7)[1]), 7)

    def test_least_left_out_is_1(self):
        self.assertEqual(asked_for([1], 1, (1, 1)), ("made", [("strong", 1)]))
        self.assertEqual(asked_for([1], 9, (0, 1)), ("made", [("thin", 1)]))

    def test_rising_by_their_worth(self):
        word, told = asked_for([1, 2], 7, (1, 1009), 1, 6, 5000)
        self.assertEqual(word, "none")
        self.assertEqual([as_fraction(part) for part in told], sorted({as_fraction(part) for part in told}))
        self.assertGreater(len(told), 50)

    def test_too_many(self):
        many = len(by_depth([1, 2], 7, 4))
        for most in (1, 10, many - 1):
            with self.assertRaises(TooMany) as caught:
                asked_for([1, 2], 7, (1, 1009), 1, 4, most)
            self.assertEqual(caught.exception.most, most)
        self.assertEqual(asked_for([1, 2], 7, (1, 1009), 1, 4, many)[0], "none")
        with self.assertRaises(TooMany) as caught:
            asked_for([1, 2, 3, 5, 7, 11], 60, (1, 1009))
        self.assertEqual(caught.exception.most, 2000)

    def test_many(self):
        source = random.Random(172)
        seen = {"made": 0, "none": 0}
        for turn in range(150):
            measures = sorted(source.sample(range(1, 10), source.randrange(1, 4)))
            room = source.randrange(1, 20)
            bottom = source.randrange(1, 12)
            one = as_amount(Fraction(source.randrange(0, bottom + 1), bottom))
            before = list(measures)
            seen[self.looked_at(measures, room, one, source.randrange(1, room + 1), source.randrange(0, 5))] += 1
            self.assertEqual(measures, before)
        self.assertGreater(min(seen.values()), 30)

    def test_the_told_lists_are_the_askers_own(self):
        for one in ((1, 2), (1, 1009)):
            first = asked_for([1, 2], 3, one)
            told = frozen(first)
            spoil(first)
            self.assertEqual(frozen(asked_for([1, 2], 3, one)), told)


if __name__ == "__main__":
    unittest.main()
