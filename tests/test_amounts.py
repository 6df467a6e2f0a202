"""phialhouse.amounts: promises 1.1 to 1.3."""

import random
import unittest
from fractions import Fraction

from phialhouse.amounts import amount, less, minus, over, plus, read_amount, shown_amount, times
from phialhouse.errors import NoAmount, NoText
from samples import as_amount

NO_WHOLE_NUMBERS = [True, False, None, "", "1", "a", [], [1], (), (1,), (1, 1), {}, {1: 1}, 1.0, 0.5, 2j, b"1",
                    Fraction(1, 2), int, object()]
# Two primes, of 39 and of 157 figures, so that their lowest terms are known.
LARGE = 2 ** 127 - 1
LARGER = 2 ** 521 - 1


def some_amounts():
    source = random.Random(11)
    found = [Fraction(0), Fraction(1), Fraction(2), Fraction(1, 2), Fraction(3, 2), Fraction(1, 3), Fraction(2, 3),
             Fraction(LARGE), Fraction(1, LARGER), Fraction(LARGER, LARGE), Fraction(10 ** 60, 10 ** 60 - 1)]
    for figures in (1, 1, 2, 3, 9, 20, 60, 200):
        most = 10 ** figures
        found.append(Fraction(source.randrange(most), source.randrange(1, most)))
        found.append(Fraction(source.randrange(most), source.randrange(1, 10)))
    return found


class TestAmount(unittest.TestCase):
    def test_lowest_terms(self):
        for top, bottom, told in [(1, 2, (1, 2)), (2, 4, (1, 2)), (4, 2, (2, 1)), (6, 4, (3, 2)), (7, 7, (1, 1)),
                                  (1, 1, (1, 1)), (9, 6, (3, 2)), (5, 3, (5, 3)), (30, 42, (5, 7)), (1, 9, (1, 9)),
                                  (1000, 10, (100, 1)), (49, 77, (7, 11)), (12, 18, (2, 3)), (17, 51, (1, 3))]:
            with self.subTest((top, bottom)):
                self.assertEqual(amount(top, bottom), told)

    def test_small_ones_all(self):
        for top in range(0, 41):
            for bottom in range(1, 41):
                self.assertEqual(amount(top, bottom), as_amount(Fraction(top, bottom)))

    def test_nought(self):
        for bottom in (1, 2, 7, 10 ** 70):
            self.assertEqual(amount(0, bottom), (0, 1))
        self.assertEqual(amount(0), (0, 1))

    def test_the_bottom_left_out(self):
        self.assertEqual(amount(5), (5, 1))
        self.assertEqual(amount(1), (1, 1))
        self.assertEqual(amount(10 ** 80), (10 ** 80, 1))

    def test_by_name(self):
        self.assertEqual(amount(top=6, bottom=4), (3, 2))

    def test_large_numbers(self):
        self.assertEqual(amount(LARGE * 6, LARGER * 4), (LARGE * 3, LARGER * 2))
        self.assertEqual(amount(LARGE * LARGER, LARGER), (LARGE, 1))
        self.assertEqual(amount(LARGE, LARGE * LARGER), (1, LARGER))
        self.assertEqual(amount(10 ** 3999, 2 * 10 ** 3998), (5, 1))
        self.assertEqual(amount(10 ** 60 + 1, 10 ** 60), (10 ** 60 + 1, 10 ** 60))

    def test_it_is_a_tuple_of_plain_numbers(self):
        for one in (amount(4, 6), amount(0), amount(3), amount(0, 4)):
            self.assertIs(type(one), tuple)
            self.assertEqual([type(part) for part in one], [int, int])

    def test_a_top_that_is_no_whole_number(self):
        for thing in NO_WHOLE_NUMBERS:
            with self.subTest(repr(thing)):
                self.assertRaises(NoAmount, amount, thing)
                self.assertRaises(NoAmount, amount, thing, 1)
                self.assertRaises(NoAmount, amount, thing, 3)

    def test_a_bottom_that_is_no_whole_number(self):
        for thing in NO_WHOLE_NUMBERS:
            with self.subTest(repr(thing)):
                self.assertRaises(NoAmount, amount, 0, thing)
                self.assertRaises(NoAmount, amount, 2, thing)

    def test_both_wrong(self):
        for thing in NO_WHOLE_NUMBERS:
            with self.subTest(repr(thing)):
                self.assertRaises(NoAmount, amount, thing, thing)
                self.assertRaises(NoAmount, amount, thing, 0)
                self.assertRaises(NoAmount, amount, -1, thing)

    def test_a_top_below_nought(self):
        for top, bottom in [(-1, 1), (-1, 2), (-4, 2), (-10 ** 70, 3), (-1, -1), (-2, -4)]:
            self.assertRaises(NoAmount, amount, top, bottom)
        self.assertRaises(NoAmount, amount, -1)

    def test_a_bottom_below_one(self):
        for top, bottom in [(0, 0), (1, 0), (1, -1), (0, -1), (6, -3), (5, -10 ** 70)]:
            self.assertRaises(NoAmount, amount, top, bottom)


class TestReckoning(unittest.TestCase):
    def test_plain_ones(self):
        self.assertEqual(plus((1, 2), (1, 3)), (5, 6))
        self.assertEqual(plus((1, 2), (1, 2)), (1, 1))
        self.assertEqual(plus((1, 6), (1, 3)), (1, 2))
        self.assertEqual(minus((1, 2), (1, 3)), (1, 6))
        self.assertEqual(minus((5, 6), (1, 3)), (1, 2))
        self.assertEqual(times((2, 3), (3, 4)), (1, 2))
        self.assertEqual(over((1, 2), (1, 4)), (2, 1))
        self.assertEqual(over((2, 3), (4, 9)), (3, 2))

    def test_nought(self):
        for one in [(0, 1), (1, 1), (7, 3), (LARGE, LARGER)]:
            self.assertEqual(plus(one, (0, 1)), one)
            self.assertEqual(plus((0, 1), one), one)
            self.assertEqual(minus(one, (0, 1)), one)
            self.assertEqual(minus(one, one), (0, 1))
            self.assertEqual(times(one, (0, 1)), (0, 1))
            self.assertEqual(times((0, 1), one), (0, 1))
        self.assertEqual(over((0, 1), (7, 3)), (0, 1))

    def test_against_fractions(self):
        found = some_amounts()
        for one in found:
            for other in found:
                pair = (as_amount(one), as_amount(other))
                self.assertEqual(plus(*pair), as_amount(one + other))
                self.assertEqual(times(*pair), as_amount(one * other))
                self.assertIs(less(*pair), one < other)
                if one >= other:
                    self.assertEqual(minus(*pair), as_amount(one - other))
                else:
                    self.assertRaises(NoAmount, minus, *pair)
                if other != 0:
                    self.assertEqual(over(*pair), as_amount(one / other))
                else:
                    self.assertRaises(NoAmount, over, *pair)

    def test_minus_where_the_second_is_more(self):
        for one, other in [((0, 1), (1, 1)), ((1, 3), (1, 2)), ((1, 1), (3, 2)), ((0, 1), (1, 10 ** 80)),
                           ((10 ** 60, 10 ** 60 + 1), (1, 1))]:
            self.assertRaises(NoAmount, minus, one, other)

    def test_over_nought(self):
        for one in [(0, 1), (1, 1), (2, 3), (10 ** 70, 1)]:
            self.assertRaises(NoAmount, over, one, (0, 1))

    def test_less(self):
        self.assertIs(less((1, 3), (1, 2)), True)
        self.assertIs(less((1, 2), (1, 3)), False)
        self.assertIs(less((1, 2), (1, 2)), False)
        self.assertIs(less((0, 1), (0, 1)), False)
        self.assertIs(less((0, 1), (1, 9)), True)
        self.assertIs(less((3, 2), (2, 1)), True)
        self.assertIs(less((2, 1), (3, 2)), False)
        self.assertIs(less((10 ** 60 - 1, 10 ** 60), (10 ** 60, 10 ** 60 + 1)), True)
        self.assertIs(less((10 ** 60, 10 ** 60 + 1), (10 ** 60 - 1, 10 ** 60)), False)


class TestShown(unittest.TestCase):
    def test_shown(self):
        for one, text in [((0, 1), "0"), ((1, 1), "1"), ((10, 1), "10"), ((1, 2), "1/2"), ((3, 2), "3/2"),
                          ((100, 7), "100/7"), ((1, 10), "1/10"), ((10 ** 60, 1), "1" + "0" * 60),
                          ((1, 10 ** 70), "1/1" + "0" * 70)]:
            with self.subTest(text):
                self.assertEqual(shown_amount(one), text)
                self.assertIs(type(shown_amount(one)), str)

    def test_shown_at_four_thousand_figures(self):
        nines = 10 ** 4000 - 1
        self.assertEqual(shown_amount((nines, 10 ** 3999)), "9" * 4000 + "/1" + "0" * 3999)


class TestRead(unittest.TestCase):
    def refused(self, thing):
        with self.subTest(repr(thing)):
            with self.assertRaises(NoText) as caught:
                read_amount(thing)
            self.assertIsNone(caught.exception.row)

    def test_read(self):
        for text, told in [("0", (0, 1)), ("1", (1, 1)), ("9", (9, 1)), ("10", (10, 1)), ("205", (205, 1)),
                           ("1/2", (1, 2)), ("3/2", (3, 2)), ("1/10", (1, 10)), ("100/7", (100, 7)),
                           ("1234567890", (1234567890, 1)), ("16/9", (16, 9))]:
            with self.subTest(text):
                self.assertEqual(read_amount(text), told)

    def test_there_and_back(self):
        for one in some_amounts():
            told = as_amount(one)
            text = shown_amount(told)
            if max(told) < 10 ** 60:
                self.assertEqual(read_amount(text), told)
            else:
                self.refused(text)
        for top in range(0, 30):
            for bottom in range(1, 30):
                told = amount(top, bottom)
                self.assertEqual(read_amount(shown_amount(told)), told)

    def test_only_the_lowest_terms_are_read(self):
        for top in range(0, 30):
            for bottom in range(0, 30):
                text = f"{top}/{bottom}"
                if bottom > 1 and Fraction(top, bottom).denominator == bottom:
                    self.assertEqual(read_amount(text), (top, bottom))
                else:
                    self.refused(text)

    def test_sixty_figures(self):
        nines = "9" * 60
        power = "1" + "0" * 59
        self.assertEqual(read_amount(nines), (10 ** 60 - 1, 1))
        self.assertEqual(read_amount(power), (10 ** 59, 1))
        self.assertEqual(read_amount("1/" + nines), (1, 10 ** 60 - 1))
        self.assertEqual(read_amount(nines + "/" + power), (10 ** 60 - 1, 10 ** 59))
        self.assertEqual(read_amount(nines + "/2"), (10 ** 60 - 1, 2))

    def test_sixty_one_figures(self):
        power = "1" + "0" * 60
        for text in [power, "9" * 61, "1/" + power, power + "/3", "3/" + power, "9" * 61 + "/" + power,
                     "9" * 61 + "/2", "1" * 5000, "1/" + "1" * 5000, "0" * 5000, "9" * 20000]:
            self.refused(text)

    def test_other_ways_of_writing(self):
        for text in ["4/2", "3/1", "0/1", "1/1", "2/2", "0/5", "5/0", "0/0", "03", "00", "-1", "-0", "01/2", "1/02",
                     "+1", "1/+2", "1/-2", "-1/2", "--1", "1_000", "1,5", "1.5", "1.0", "1e3", "0x1", "1/2/3", "1//2",
                     "/", "/2", "1/", "a", "one", "1a", "a1", "1x", "x", "1/a", "1'", "\u00bd"]:
            self.refused(text)

    def test_blanks_and_the_empty_text(self):
        for text in ["", " ", "1 ", " 1", "1 /2", "1/ 2", "1/2 ", " 1/2", "1 2", "\t1", "1\t", "1\n", "\n1", "1/2\n",
                     "1\r", "\n", "1\u00a0", "\u20031", "1\x00", "1\ufeff"]:
            self.refused(text)

    def test_figures_of_other_scripts(self):
        for text in ["\u0661", "\u0663/\u0664", "1/\u0662", "\u0661/2", "1\u0660", "\uff11", "\u00b2", "\u2460",
                     "\u096b", "\u2167", "\U0001d7d7"]:
            self.refused(text)

    def test_what_is_no_text(self):
        for thing in [None, True, False, 0, 1, 3, 1.5, (1, 2), (3, 1), ["1"], [], (), {}, b"1", b"1/2", {"1"},
                      Fraction(1, 2), str, object()]:
            self.refused(thing)


if __name__ == "__main__":
    unittest.main()
