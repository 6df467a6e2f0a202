"""phialhouse.deeds: promises 4.3, 4.4, 4.5 and 4.7."""

import random
import unittest

from phialhouse.bench import fit
from phialhouse.deeds import Deed, Draw, Empty, Fill, Pour, Rinse, deed_of
from phialhouse.errors import Dry, Low, NoDeed, PhialError, Spilt, Touch, Wet
from samples import ANYTHING, frozen, plain_done, some_bench, some_deed, some_phials, spoil

BENCH = (((2, 1), (3, 1), (1, 1)), (("acid", "lye"), ("lye", "oil"), ("oil", "wax")))
SALT = (("salt", (1, 1)),)
BRINE = (("salt", (1, 1)), ("water", (1, 2)))
PHIALS = [(BRINE, ("salt", "water")), ((), ("acid",)), ((), ())]


def onto(row, phials=None, bench=BENCH):
    return deed_of(bench, row).onto(bench, PHIALS if phials is None else phials)


class TestDeedOf(unittest.TestCase):
    def test_the_right_class_with_its_fields(self):
        for row, kind, fields in [
            (("draw", 1, "oil", (2, 3)), Draw, {"phial": 1, "ware": "oil", "amount": (2, 3)}),
            (("fill", 2, "wax", (1, 1)), Fill, {"phial": 2, "ware": "wax", "level": (1, 1)}),
            (("fill", 2, "wax", (0, 1)), Fill, {"phial": 2, "ware": "wax", "level": (0, 1)}),
            (("pour", 0, 2, (1, 1)), Pour, {"one": 0, "other": 2, "part": (1, 1)}),
            (("pour", 2, 0, (1, 7)), Pour, {"one": 2, "other": 0, "part": (1, 7)}),
            (("empty", 0), Empty, {"phial": 0}),
            (("rinse", 2), Rinse, {"phial": 2}),
        ]:
            deed = deed_of(BENCH, row)
            self.assertIs(type(deed), kind)
            self.assertIsInstance(deed, Deed)
            for name, value in fields.items():
                self.assertEqual(getattr(deed, name), value)
            self.assertEqual(deed.told(), row)
            self.assertIs(type(deed.told()), tuple)

    def test_made_by_hand(self):
        self.assertEqual(Draw(0, "oil", (1, 2)).told(), ("draw", 0, "oil", (1, 2)))
        self.assertEqual(Fill(0, "oil", (1, 2)).told(), ("fill", 0, "oil", (1, 2)))
        self.assertEqual(Pour(0, 1, (1, 2)).told(), ("pour", 0, 1, (1, 2)))
        self.assertEqual(Empty(3).told(), ("empty", 3))
        self.assertEqual(Rinse(3).told(), ("rinse", 3))
        self.assertIsInstance(Deed(), Deed)
        self.assertEqual(Draw(2, "oil", (1, 1)).onto(BENCH, PHIALS)[2], ((("oil", (1, 1)),), ("oil",)))

    def test_they_stand_right_under_deed(self):
        for kind in (Draw, Fill, Pour, Empty, Rinse):
            self.assertEqual(kind.__bases__, (Deed,))


class TestNoDeed(unittest.TestCase):
    def refused(self, row):
        with self.assertRaises(NoDeed, msg=repr(row)) as caught:
            deed_of(BENCH, row)
        self.assertEqual(caught.exception.place, 0)
        self.assertIs(type(caught.exception.place), int)

    def test_anything(self):
        for thing in ANYTHING:
            self.refused(thing)
            self.refused((thing,))
            self.refused((thing, 0))
            self.refused((thing, 0, "oil", (1, 1)))

    def test_no_tuple(self):
        for row in (["draw", 0, "oil", (1, 1)], ["empty", 0], "empty", {"empty": 0}, ("empty", [0])):
            self.refused(row)

    def test_too_short_or_too_long(self):
        for row in (("draw", 0, "oil", (1, 1)), ("fill", 0, "oil", (2, 1)), ("pour", 0, 1, (1, 1)), ("empty", 0), ("rinse", 1)):
            deed_of(BENCH, row)
            for length in range(len(row)):
                self.refused(row[:length])
            self.refused(row + ((1, 1),))
            self.refused(row + (0,))

    def test_unknown_words(self):
        for word in ("", "Draw", "DRAW", "draws", "draw ", "take", "put", "phial"):
            self.refused((word, 0))
            self.refused((word, 0, "oil", (1, 1)))
            self.refused((word, 0, 1, (1, 1)))

    def test_no_phial(self):
        for phial in (3, 4, 10 ** 30, -1, -3, True, False, None, 0.0, 1.0, "0", (0,), [0], "oil"):
            self.refused(("draw", phial, "oil", (1, 1)))
            self.refused(("fill", phial, "oil", (2, 1)))
            self.refused(("pour", phial, 2, (1, 1)))
            self.refused(("pour", 2, phial, (1, 1)))
            self.refused(("empty", phial))
            self.refused(("rinse", phial))

    def test_no_ware(self):
        for ware in ("", "Oil", "abcdefghi", "o l", 1, None, True, ("oil",), ["oil"], b"oil"):
            self.refused(("draw", 0, ware, (1, 1)))
            self.refused(("fill", 0, ware, (2, 1)))

    def test_no_amount(self):
        for many in (1, "1", None, (1,), (1, 1, 1), [1, 1], (2, 4), (1, 0), (-1, 1), (1, -1), (0, 2), (True, 1), (1, True),
                     (1.0, 1), (), True):
            self.refused(("draw", 0, "oil", many))
            self.refused(("fill", 0, "oil", many))
            self.refused(("pour", 0, 1, many))

    def test_nought_and_more_than_one(self):
        self.refused(("draw", 0, "oil", (0, 1)))
        self.refused(("pour", 0, 1, (0, 1)))
        for part in ((2, 1), (3, 2), (1000001, 1000000)):
            self.refused(("pour", 0, 1, part))

    def test_one_and_other_alike(self):
        for phial in (0, 1, 2):
            self.refused(("pour", phial, phial, (1, 1)))


class TestOnto(unittest.TestCase):
    def test_draw(self):
        self.assertEqual(onto(("draw", 0, "oil", (1, 2))),
                         [((("oil", (1, 2)), ("salt", (1, 1)), ("water", (1, 2))), ("oil", "salt", "water"))] + PHIALS[1:])
        self.assertEqual(onto(("draw", 0, "salt", (1, 3)))[0], ((("salt", (4, 3)), ("water", (1, 2))), ("salt", "water")))
        self.assertEqual(onto(("draw", 1, "salt", (3, 1)))[1], ((("salt", (3, 1)),), ("acid", "salt")))

    def test_fill(self):
        self.assertEqual(onto(("fill", 0, "water", (2, 1)))[0], ((("salt", (1, 1)), ("water", (1, 1))), ("salt", "water")))
        self.assertEqual(onto(("fill", 1, "water", (5, 2)))[1], ((("water", (5, 2)),), ("acid", "water")))

    def test_pour_all(self):
        behind = onto(("pour", 0, 1, (1, 1)))
        self.assertEqual(behind, [((), ("salt", "water")), (BRINE, ("acid", "salt", "water")), ((), ())])

    def test_pour_a_share(self):
        behind = onto(("pour", 0, 2, (1, 3)))
        self.assertEqual(behind, [((("salt", (2, 3)), ("water", (1, 3))), ("salt", "water")), ((), ("acid",)),
                                  ((("salt", (1, 3)), ("water", (1, 6))), ("salt", "water"))])

    def test_what_clings_goes_on_with_a_pour(self):
        behind = onto(("pour", 0, 1, (1, 2)), [(SALT, ("acid", "salt")), ((), ("wax",)), ((), ())])
        self.assertEqual(behind[0], ((("salt", (1, 2)),), ("acid", "salt")))
        self.assertEqual(behind[1], ((("salt", (1, 2)),), ("acid", "salt", "wax")))

    def test_empty_and_rinse(self):
        self.assertEqual(onto(("empty", 0)), [((), ("salt", "water"))] + PHIALS[1:])
        self.assertEqual(onto(("empty", 1)), PHIALS)
        self.assertEqual(onto(("rinse", 1)), [PHIALS[0], ((), ()), ((), ())])
        self.assertEqual(onto(("rinse", 2)), PHIALS)

    def test_the_phials_handed_in_stay(self):
        for row in (("draw", 0, "oil", (1, 2)), ("fill", 0, "water", (2, 1)), ("pour", 0, 1, (1, 1)), ("empty", 0), ("empty", 2),
                    ("rinse", 1), ("rinse", 2)):
            phials = list(PHIALS)
            behind = onto(row, phials)
            self.assertEqual(phials, PHIALS)
            self.assertIsNot(behind, phials)
            told = frozen(behind)
            phials.clear()
            self.assertEqual(frozen(behind), told)
            spoil(behind)
            self.assertEqual(frozen(onto(row)), told)

    def test_a_deed_may_be_done_again(self):
        deed = deed_of(BENCH, ("draw", 1, "oil", (1, 1)))
        once = deed.onto(BENCH, PHIALS)
        self.assertEqual(deed.onto(BENCH, once)[1][0], (("oil", (2, 1)),))
        self.assertEqual(deed.onto(BENCH, PHIALS), once)


class TestRefused(unittest.TestCase):
    def refused(self, row, kind, phials=None, **fields):
        with self.assertRaises(kind, msg=repr(row)) as caught:
            onto(row, phials)
        self.assertIs(type(caught.exception), kind)
        self.assertEqual(vars(caught.exception), {"place": 0, **fields})

    def test_dry(self):
        self.refused(("pour", 1, 0, (1, 1)), Dry, phial=1)
        self.refused(("pour", 2, 1, (1, 9)), Dry, phial=2)

    def test_wet(self):
        self.refused(("rinse", 0), Wet, phial=0)

    def test_low(self):
        for level in ((3, 2), (1, 1), (0, 1)):
            self.refused(("fill", 0, "oil", level), Low, phial=0)
        self.refused(("fill", 2, "oil", (0, 1)), Low, phial=2)

    def test_spilt(self):
        self.refused(("draw", 0, "oil", (2, 3)), Spilt, phial=0, over=(1, 6))
        self.refused(("draw", 2, "oil", (7, 2)), Spilt, phial=2, over=(5, 2))
        self.refused(("fill", 0, "oil", (9, 4)), Spilt, phial=0, over=(1, 4))
        self.refused(("pour", 0, 2, (1, 1)), Spilt, phial=2, over=(1, 2))
        self.refused(("pour", 0, 2, (3, 4)), Spilt, phial=2, over=(1, 8))

    def test_just_to_the_brim(self):
        self.assertEqual(onto(("draw", 0, "oil", (1, 2)))[0][0][0], ("oil", (1, 2)))
        self.assertEqual(onto(("fill", 0, "oil", (2, 1)))[0][0][0], ("oil", (1, 2)))
        self.assertEqual(onto(("pour", 0, 2, (2, 3)))[2][0], (("salt", (2, 3)), ("water", (1, 3))))
        behind = onto(("pour", 0, 2, (1, 1)), [(SALT, ("salt",)), ((), ()), ((), ())])
        self.assertEqual(behind, [((), ("salt",)), ((), ()), (SALT, ("salt",))])

    def test_touch(self):
        self.refused(("draw", 1, "lye", (1, 1)), Touch, phial=1, pair=("acid", "lye"))
        self.refused(("fill", 1, "lye", (1, 1)), Touch, phial=1, pair=("acid", "lye"))
        lye = (("lye", (1, 1)),)
        self.refused(("pour", 0, 1, (1, 2)), Touch, [(lye, ("lye",)), ((), ("acid",)), ((), ())], phial=1, pair=("acid", "lye"))
        self.refused(("pour", 0, 1, (1, 2)), Touch, [(SALT, ("lye", "salt")), ((), ("oil",)), ((), ())], phial=1,
                     pair=("lye", "oil"))

    def test_the_first_pair_of_apart(self):
        self.refused(("draw", 1, "lye", (1, 1)), Touch, [((), ()), ((), ("acid", "oil")), ((), ())], phial=1,
                     pair=("acid", "lye"))
        self.refused(("draw", 1, "oil", (1, 1)), Touch, [((), ()), ((), ("lye", "wax")), ((), ())], phial=1,
                     pair=("lye", "oil"))

    def test_the_first_that_is_due(self):
        acid = [((("acid", (1, 1)),), ("acid",)), ((("salt", (3, 1)),), ("salt",)), ((), ("lye",))]
        self.refused(("fill", 0, "lye", (1, 1)), Low, acid, phial=0)
        self.refused(("fill", 0, "lye", (3, 1)), Spilt, acid, phial=0, over=(1, 1))
        self.refused(("draw", 0, "lye", (3, 1)), Spilt, acid, phial=0, over=(2, 1))
        self.refused(("pour", 1, 2, (1, 1)), Spilt, acid, phial=2, over=(2, 1))
        self.refused(("pour", 2, 0, (1, 1)), Dry, acid, phial=2)
        self.refused(("pour", 0, 2, (1, 1)), Touch, acid, phial=2, pair=("acid", "lye"))
        for row in (("pour", 2, 2, (1, 1)), ("pour", 2, 0, (3, 2)), ("rinse", 0, 0), ("fill", 0, "Lye", (1, 1)),
                    ("draw", 0, "lye", (6, 2))):
            self.refused(row, NoDeed, acid)


class TestMany(unittest.TestCase):
    def test_many_rows(self):
        source = random.Random(91)
        seen = {}
        for turn in range(1500):
            bench = some_bench(source)
            phials = some_phials(source, bench)
            row = some_deed(source, bench, phials)
            if row[0] == "pour" and row[1] == row[2]:
                continue
            due = plain_done(bench, phials, row)
            try:
                told = ("ok", deed_of(bench, row).onto(bench, phials))
                self.assertIs(fit(bench, told[1]), True)
            except PhialError as refusal:
                fields = vars(refusal)
                self.assertEqual(fields.pop("place"), 0)
                told = (type(refusal).__name__,) + tuple(fields.values())
            self.assertEqual(told, due, (bench, phials, row))
            seen[due[0]] = seen.get(due[0], 0) + 1
        self.assertEqual(sorted(seen), ["Dry", "Low", "Spilt", "Touch", "Wet", "ok"])
        self.assertGreater(min(seen.values()), 10, seen)


if __name__ == "__main__":
    unittest.main()
