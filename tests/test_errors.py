"""phialhouse.errors: every refusal stands right under PhialError and has its fields (0.3, the interface)."""

import unittest

from phialhouse import errors

FIELDS = {
    "NoAmount": None, "Nothing": None, "NoText": ("row",), "Short": ("lies",),
    "Twice": ("name",), "NoName": ("name", "recipe"), "NoPair": ("name",), "Ring": ("ring",),
    "Over": ("recipe", "place"), "Meet": ("recipe", "one", "other", "ways"),
    "TooLarge": ("size",),
    "NoDeed": ("place",), "Dry": ("place", "phial"), "Wet": ("place", "phial"), "Low": ("place", "phial"),
    "Spilt": ("place", "phial", "over"), "Touch": ("place", "phial", "pair"),
    "Few": ("need", "ready"),
    "TooMany": ("most",),
    "NoThing": None, "Had": None, "Lacks": ("there",), "Stale": ("lots",), "Back": None, "NoneLeft": None,
    "NoOrder": ("place",),
    "NoRow": None,
}

SAMPLES = {
    "row": 3, "lies": (7, 2), "name": "salt", "recipe": "paste", "ring": ["paste", "brine"], "place": 4,
    "one": "acid", "other": "lye", "ways": (["paste", "acid"], ["paste", "brine", "lye"]), "size": 301,
    "phial": 2, "over": (1, 3), "pair": ("acid", "lye"), "need": 5, "ready": 1, "most": 2000, "there": 9,
    "lots": ["xa", "xb"],
}


class TestClasses(unittest.TestCase):
    def test_the_refusals_are_just_the_told_ones(self):
        found = [name for name, thing in vars(errors).items()
                 if isinstance(thing, type) and issubclass(thing, BaseException)]
        self.assertEqual(sorted(found), sorted(list(FIELDS) + ["PhialError"]))

    def test_phial_error_stands_right_under_value_error(self):
        self.assertEqual(errors.PhialError.__bases__, (ValueError,))

    def test_each_refusal_stands_right_under_phial_error(self):
        for name in FIELDS:
            with self.subTest(name):
                self.assertEqual(getattr(errors, name).__bases__, (errors.PhialError,))

    def test_no_refusal_stands_under_another_one(self):
        for name in FIELDS:
            for other in FIELDS:
                if name != other:
                    self.assertFalse(issubclass(getattr(errors, name), getattr(errors, other)), (name, other))


class TestFields(unittest.TestCase):
    def test_refusals_with_fields_are_made_of_them_in_the_told_order(self):
        for name, fields in FIELDS.items():
            if fields is None:
                continue
            with self.subTest(name):
                refusal = getattr(errors, name)(*[SAMPLES[field] for field in fields])
                self.assertEqual(vars(refusal), {field: SAMPLES[field] for field in fields})

    def test_none_may_be_a_field(self):
        self.assertIsNone(errors.NoText(None).row)
        self.assertIsNone(errors.NoName("salt", None).recipe)

    def test_the_others_are_made_of_a_text(self):
        for name, fields in FIELDS.items():
            if fields is None:
                with self.subTest(name):
                    refusal = getattr(errors, name)("some words")
                    self.assertEqual(str(refusal), "some words")
                    self.assertEqual(vars(refusal), {})

    def test_phial_error_itself_is_made_of_a_text(self):
        self.assertEqual(str(errors.PhialError("some words")), "some words")

    def test_each_refusal_tells_some_words(self):
        for name, fields in FIELDS.items():
            if fields is not None:
                with self.subTest(name):
                    refusal = getattr(errors, name)(*[SAMPLES[field] for field in fields])
                    self.assertNotEqual(str(refusal), "")


class TestNothingIsKept(unittest.TestCase):
    def test_a_ring_is_its_own_list(self):
        ring = ["paste", "brine"]
        refusal = errors.Ring(ring)
        ring.append("more")
        self.assertEqual(refusal.ring, ["paste", "brine"])
        refusal.ring.clear()
        self.assertEqual(ring, ["paste", "brine", "more"])

    def test_ways_are_a_tuple_of_lists_of_their_own(self):
        ways = (["paste", "acid"], ["paste", "lye"])
        refusal = errors.Meet("paste", "acid", "lye", ways)
        ways[0].append("more")
        ways[1].clear()
        self.assertEqual(refusal.ways, (["paste", "acid"], ["paste", "lye"]))

    def test_lots_are_their_own_list(self):
        lots = ["xa"]
        refusal = errors.Stale(lots)
        lots.append("xb")
        self.assertEqual(refusal.lots, ["xa"])


if __name__ == "__main__":
    unittest.main()
