"""phialhouse.lines: what promise 10.2 says of how things are written, and 10.1 of numbers."""

import unittest

from phialhouse.lines import number_of, shown_list, shown_mixture
from samples import ANYTHING


class TestShown(unittest.TestCase):
    def test_mixtures(self):
        self.assertEqual(shown_mixture(()), "-")
        self.assertEqual(shown_mixture((("salt", (1, 2)),)), "salt 1/2")
        self.assertEqual(shown_mixture((("oil", (3, 1)), ("salt", (1, 2)), ("water", (10, 3)))), "oil 3, salt 1/2, water 10/3")

    def test_what_books_hold(self):
        self.assertEqual(shown_mixture([]), "-")
        self.assertEqual(shown_mixture([("la", (2, 3)), ("lb", (4, 3))]), "la 2/3, lb 4/3")

    def test_lists(self):
        self.assertEqual(shown_list([]), "-")
        self.assertEqual(shown_list(()), "-")
        self.assertEqual(shown_list(["salt"]), "salt")
        self.assertEqual(shown_list(("oil", "salt")), "oil,salt")
        self.assertEqual(shown_list([3, 0, 12]), "3,0,12")
        self.assertEqual(shown_list(["strong3", "1/2"]), "strong3,1/2")


class TestNumberOf(unittest.TestCase):
    def test_numbers(self):
        for word, number in [("0", 0), ("1", 1), ("9", 9), ("10", 10), ("1000000", 1000000), ("999999999", 999999999)]:
            self.assertEqual(number_of(word), number)
            self.assertIs(type(number_of(word)), int)

    def test_words_that_are_none(self):
        for word in ["", "00", "01", "007", "1000000000", "-1", "+1", "1/2", "1.0", " 1", "1 ", "1_0", "a", "one", "1a", "\u0661",
                     "\u00b2", "\uff11", "1\n", "9" * 5000]:
            self.assertIsNone(number_of(word), word)

    def test_anything(self):
        for thing in ANYTHING:
            if thing != "12":
                self.assertIsNone(number_of(thing), repr(thing))


if __name__ == "__main__":
    unittest.main()
