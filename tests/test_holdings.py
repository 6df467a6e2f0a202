"""phialhouse.holdings: promise 8.2, as far as it speaks of sharing."""

import random
import unittest
from fractions import Fraction

from phialhouse.holdings import put_together, shared, total_of
from samples import as_amount, as_fraction, frozen, spoil


def some_holding(source):
    """A holding whose total is a whole number."""
    lots = source.sample(["la", "lb", "lc", "ld", "le"], source.randrange(1, 6))
    parts = [Fraction(source.randrange(1, 50), source.randrange(1, 50)) for lot in lots]
    whole = source.randrange(1, 10 ** source.choice([1, 3, 6]))
    return {lot: as_amount(part * whole / sum(parts)) for lot, part in zip(lots, parts)}


class TestTotalOf(unittest.TestCase):
    def test_totals(self):
        self.assertEqual(total_of({}), (0, 1))
        self.assertEqual(total_of({"la": (3, 1)}), (3, 1))
        self.assertEqual(total_of({"la": (3, 2), "lb": (1, 6), "lc": (1, 3)}), (2, 1))
        self.assertEqual(total_of({"la": (1, 2), "lb": (1, 3)}), (5, 6))


class TestShared(unittest.TestCase):
    def test_of_one_lot(self):
        self.assertEqual(shared({"la": (5, 1)}, 2), ({"la": (2, 1)}, {"la": (3, 1)}))
        self.assertEqual(shared({"la": (5, 1)}, 5), ({"la": (5, 1)}, {}))
        self.assertEqual(shared({"la": (1, 1)}, 1), ({"la": (1, 1)}, {}))

    def test_of_several(self):
        self.assertEqual(shared({"la": (1, 1), "lb": (2, 1)}, 1), ({"la": (1, 3), "lb": (2, 3)}, {"la": (2, 3), "lb": (4, 3)}))
        self.assertEqual(shared({"la": (1, 3), "lb": (2, 3)}, 1), ({"la": (1, 3), "lb": (2, 3)}, {}))

    def test_many(self):
        source = random.Random(181)
        for turn in range(300):
            holding = some_holding(source)
            before = frozen(holding)
            total = sum([as_fraction(part) for part in holding.values()])
            many = source.choice([1, int(total), source.randrange(1, int(total) + 1)])
            told = shared(holding, many)
            self.assertEqual([type(part) for part in (told,) + told], [tuple, dict, dict])
            goes, stays = told
            self.assertEqual(goes, {lot: as_amount(as_fraction(part) * many / total) for lot, part in holding.items()})
            self.assertEqual(stays, {lot: as_amount(as_fraction(part) * (total - many) / total)
                                     for lot, part in holding.items() if many < total})
            self.assertEqual(total_of(goes), (many, 1))
            self.assertEqual(put_together(goes, stays), holding)
            again = frozen(told)
            spoil(told)
            self.assertEqual(frozen(holding), before)
            self.assertEqual(frozen(shared(holding, many)), again)


class TestPutTogether(unittest.TestCase):
    def test_holdings(self):
        self.assertEqual(put_together({}, {}), {})
        self.assertEqual(put_together({"la": (1, 2)}, {}), {"la": (1, 2)})
        self.assertEqual(put_together({}, {"la": (1, 2)}), {"la": (1, 2)})
        self.assertEqual(put_together({"la": (1, 2), "lb": (1, 1)}, {"lc": (2, 1), "la": (1, 3)}),
                         {"la": (5, 6), "lb": (1, 1), "lc": (2, 1)})

    def test_the_dicts_stay_as_they_were(self):
        one, other = {"la": (1, 2)}, {"la": (1, 2), "lb": (1, 1)}
        for first, second in ((one, other), (other, one), (one, {}), ({}, one), (one, one)):
            before = frozen([first, second])
            told = put_together(first, second)
            again = frozen(told)
            spoil(told)
            self.assertEqual(frozen([first, second]), before)
            self.assertEqual(frozen(put_together(first, second)), again)


if __name__ == "__main__":
    unittest.main()
