"""phialhouse.reader: promises 2.1 and 2.2, as far as they speak of reading."""

import random
import unittest

from phialhouse.errors import NoText
from phialhouse.reader import read_book
from samples import numbered, some_book, written

NINES = "999999999"
TENTH = "1000000000"

WHOLE_TEXT = "\n".join([
    "ware water",
    "ware salt",
    "ware acid",
    "ware lye",
    "apart acid lye",
    "apart salt acid",
    "recipe brine: take 1/2 of salt; fill 10 with water",
    "recipe paste: parts 3: 1 salt, 2 brine; 4 to one of water; take 7/3 of acid",
])
WHOLE_BOOK = (
    ("water", "salt", "acid", "lye"),
    (("acid", "lye"), ("salt", "acid")),
    (("brine", (("take", (1, 2), "salt"), ("fill", (10, 1), "water"))),
     ("paste", (("parts", (3, 1), ((1, "salt"), (2, "brine"))), ("to", 4, "water"), ("take", (7, 3), "acid")))),
)


class ReaderTest(unittest.TestCase):
    def refused(self, text, row):
        with self.subTest(text):
            with self.assertRaises(NoText) as caught:
                read_book(text)
            self.assertEqual(caught.exception.row, row)
            self.assertIs(type(caught.exception.row), int)

    def row_is(self, row, told):
        with self.subTest(row):
            self.assertEqual(read_book("ware a\nrecipe x: " + row), (("a",), (), (("x", (told,)),)))

    def row_refused(self, row):
        self.refused("ware a\nrecipe x: " + row, 1)
        self.refused("ware a\nrecipe x: take 1 of a; " + row, 1)
        self.refused("ware a\nware b\napart a b\nrecipe y: take 1 of a\nrecipe x: take 1 of a; " + row, 4)

    def later_row_is(self, row, told):
        with self.subTest(row):
            book = read_book("ware a\nrecipe x: take 1 of a; " + row)
            self.assertEqual(book, (("a",), (), (("x", (("take", (1, 1), "a"), told)),)))


class TestRead(ReaderTest):
    def test_all_four_kinds_of_rows(self):
        self.assertEqual(read_book(WHOLE_TEXT), WHOLE_BOOK)

    def test_wares_alone(self):
        self.assertEqual(read_book("ware a"), (("a",), (), ()))
        self.assertEqual(read_book("ware b\nware a"), (("b", "a"), (), ()))

    def test_without_pairs_or_without_recipes(self):
        self.assertEqual(read_book("ware a\nrecipe x: take 2 of a"),
                         (("a",), (), (("x", (("take", (2, 1), "a"),)),)))
        self.assertEqual(read_book("ware a\nware b\napart b a"), (("a", "b"), (("b", "a"),), ()))

    def test_it_is_of_tuples_through_and_through(self):
        def looked_at(thing):
            self.assertIn(type(thing), (tuple, str, int))
            if isinstance(thing, tuple):
                for part in thing:
                    looked_at(part)
        looked_at(read_book(WHOLE_TEXT))

    def test_the_rows(self):
        self.row_is("take 3/4 of salt", ("take", (3, 4), "salt"))
        self.row_is("fill 12 with water", ("fill", (12, 1), "water"))
        self.row_is("parts 5/2: 7 a", ("parts", (5, 2), ((7, "a"),)))
        self.row_is("parts 6: 3 a, 2 b, 1 a", ("parts", (6, 1), ((3, "a"), (2, "b"), (1, "a"))))
        self.later_row_is("3 to one of water", ("to", 3, "water"))

    def test_names_that_are_words_of_the_language(self):
        self.row_is("take 1 of of", ("take", (1, 1), "of"))
        self.row_is("fill 1 with with", ("fill", (1, 1), "with"))
        self.row_is("parts 1: 1 parts", ("parts", (1, 1), ((1, "parts"),)))
        self.later_row_is("2 to one of to", ("to", 2, "to"))
        self.assertEqual(read_book("ware ware\napart apart recipe\nrecipe recipe: take 1 of ware"),
                         (("ware",), (("apart", "recipe"),), (("recipe", (("take", (1, 1), "ware"),)),)))

    def test_whether_names_are_told_is_not_looked_at(self):
        text = "ware a\nware a\napart b b\napart b b\nrecipe a: take 1 of q\nrecipe a: take 1 of a; fill 1 with z"
        self.assertEqual(read_book(text), (("a", "a"), (("b", "b"), ("b", "b")),
                                           (("a", (("take", (1, 1), "q"),)),
                                            ("a", (("take", (1, 1), "a"), ("fill", (1, 1), "z"))))))

    def test_many_books(self):
        source = random.Random(22)
        for turn in range(150):
            book = some_book(source)
            self.assertEqual(read_book(written(book)), book)

    def test_the_order_stays(self):
        names = [numbered(number) for number in range(20)]
        source = random.Random(23)
        source.shuffle(names)
        self.assertEqual(read_book("\n".join(["ware " + name for name in names]))[0], tuple(names))


class TestBounds(ReaderTest):
    def test_twenty_wares(self):
        lines = ["ware " + numbered(number) for number in range(21)]
        self.assertEqual(len(read_book("\n".join(lines[:20]))[0]), 20)
        self.refused("\n".join(lines), 20)
        self.refused("\n".join(lines + ["apart a b", "nonsense"]), 20)

    def test_thirty_pairs(self):
        lines = ["ware a"] + ["apart a " + numbered(number) for number in range(31)]
        self.assertEqual(len(read_book("\n".join(lines[:31]))[1]), 30)
        self.refused("\n".join(lines), 31)

    def test_twelve_recipes(self):
        lines = ["ware a"] + [f"recipe {numbered(number)}: take 1 of a" for number in range(13)]
        self.assertEqual(len(read_book("\n".join(lines[:13]))[2]), 12)
        self.refused("\n".join(lines), 13)

    def test_all_bounds_at_once(self):
        row = f"parts {NINES}/999999998: 1000 abcdefgh, 1 stuvwxyz, 1000 a, 999 b"
        rows = "; ".join(["take 1/999999999 of stuvwxyz", row, row, row, "fill 999999999 with zzzzzzzz",
                          "1000 to one of zzzzzzzz"])
        lines = ["ware abcdefgh"] * 20 + ["apart abcdefgh stuvwxyz"] * 30 + [f"recipe ijklmnop: {rows}"] * 12
        parts = ("parts", (999999999, 999999998), ((1000, "abcdefgh"), (1, "stuvwxyz"), (1000, "a"), (999, "b")))
        recipe = ("ijklmnop", (("take", (1, 999999999), "stuvwxyz"), parts, parts, parts,
                               ("fill", (999999999, 1), "zzzzzzzz"), ("to", 1000, "zzzzzzzz")))
        self.assertEqual(read_book("\n".join(lines)),
                         (("abcdefgh",) * 20, (("abcdefgh", "stuvwxyz"),) * 30, (recipe,) * 12))

    def test_six_rows(self):
        for row, told in [("take 1 of a", ("take", (1, 1), "a")), ("parts 1: 1 a", ("parts", (1, 1), ((1, "a"),))),
                          ("fill 1 with a", ("fill", (1, 1), "a"))]:
            self.assertEqual(read_book("ware a\nrecipe x: " + "; ".join([row] * 6))[2], (("x", (told,) * 6),))
            self.refused("ware a\nrecipe x: " + "; ".join([row] * 7), 1)
        self.refused("ware a\nrecipe x: take 1 of a" + "; 1 to one of a" * 6, 1)
        self.assertEqual(len(read_book("ware a\nrecipe x: take 1 of a" + "; 1 to one of a" * 5)[2][0][1]), 6)

    def test_four_pairs_of_parts(self):
        self.row_is("parts 2: 1 a, 2 b, 3 c, 4 d", ("parts", (2, 1), ((1, "a"), (2, "b"), (3, "c"), (4, "d"))))
        self.row_refused("parts 2: 1 a, 2 b, 3 c, 4 d, 5 e")
        self.row_refused("parts 2")
        self.row_refused("parts 2:")
        self.row_refused("parts 2: ")

    def test_numbers_from_1_to_1000(self):
        for number in (1, 2, 9, 10, 999, 1000):
            self.row_is(f"parts 1: {number} a", ("parts", (1, 1), ((number, "a"),)))
            self.row_is(f"parts 1: 5 b, {number} a", ("parts", (1, 1), ((5, "b"), (number, "a"))))
            self.later_row_is(f"{number} to one of a", ("to", number, "a"))

    def test_numbers_that_are_none(self):
        for number in ["0", "1001", "1010", "9999", "10000", "-1", "+1", "01", "001", "0001", "1/2", "3/2", "2/1", "1.0",
                       "1e2", "one", "", "a", "\u0661", "\u00b2", "1_0", "1000000000000", "9" * 61, "9" * 5000]:
            self.row_refused(f"parts 1: {number} a")
            self.row_refused(f"parts 1: 5 b, {number} a")
            self.row_refused(f"{number} to one of a")

    def test_amounts_of_nine_figures(self):
        for text, told in [(NINES, (999999999, 1)), ("1/" + NINES, (1, 999999999)), ("100000000", (10 ** 8, 1)),
                           ("999999998/" + NINES, (999999998, 999999999)), ("1", (1, 1))]:
            self.row_is(f"take {text} of a", ("take", told, "a"))
            self.row_is(f"fill {text} with a", ("fill", told, "a"))
            self.row_is(f"parts {text}: 1 a", ("parts", told, ((1, "a"),)))

    def test_amounts_that_are_none(self):
        for text in ["0", TENTH, TENTH + "/3", "1/" + TENTH, "3/" + TENTH, NINES + "/" + TENTH, "9" * 60, "9" * 61,
                     "4/2", "3/1", "0/1", "1/0", "03", "1/02", "-1", "+1", "1.5", "", "a", "1/", "/2", "1/2/3", "1e2",
                     "\u0661", "1_0", "\uff11"]:
            self.row_refused(f"take {text} of a")
            self.row_refused(f"fill {text} with a")
            self.row_refused(f"parts {text}: 1 a")

    def test_names_of_one_to_eight_letters(self):
        for name in ["a", "z", "abcdefgh", "stuvwxyz"]:
            self.assertEqual(read_book("ware " + name)[0], (name,))
            self.assertEqual(read_book(f"ware a\napart {name} b")[1], ((name, "b"),))
            self.assertEqual(read_book(f"ware a\napart b {name}")[1], (("b", name),))
            self.assertEqual(read_book(f"ware a\nrecipe {name}: take 1 of b")[2][0][0], name)
            self.row_is(f"take 1 of {name}", ("take", (1, 1), name))
            self.row_is(f"fill 1 with {name}", ("fill", (1, 1), name))
            self.row_is(f"parts 1: 1 {name}", ("parts", (1, 1), ((1, name),)))
            self.later_row_is(f"1 to one of {name}", ("to", 1, name))

    def test_names_that_are_none(self):
        for name in ["", "abcdefghi", "A", "Salt", "salt1", "1", "a-b", "a_b", "\u00e9", "\u0430", "a b", "a,", "a;",
                     "a:", "a.", "a\r", "a\t"]:
            self.refused("ware " + name, 0)
            self.refused("ware a\nware " + name, 1)
            self.refused(f"ware a\napart {name} b", 1)
            self.refused(f"ware a\napart b {name}", 1)
            self.refused(f"ware a\nrecipe {name}: take 1 of b", 1)
            self.row_refused(f"take 1 of {name}")
            self.row_refused(f"fill 1 with {name}")
            self.row_refused(f"parts 1: 1 {name}")
            self.row_refused(f"parts 1: 1 a, 1 {name}")
            self.row_refused(f"1 to one of {name}")


class TestRefused(ReaderTest):
    def test_bad_rows(self):
        for line in ["", " ", "nonsense", "wares a", "Ware a", "WARE a", "ware", "warea", "ware a b", "war a",
                     "apart", "apart a", "apart a b c", "apart a, b", "Apart a b", "recipe", "recipe x", "recipe x:",
                     "recipe x: ", "recipe : take 1 of a", "recipe: take 1 of a", "recipe x take 1 of a",
                     "recipe x y: take 1 of a", "Recipe x: take 1 of a", "take 1 of a", "x: take 1 of a", "#", "a"]:
            self.refused("ware a\n" + line, 1)
            self.refused("ware a\nware b\n" + line + "\nware c", 2)
            self.refused(line, 0)

    def test_bad_rows_of_recipes(self):
        for row in ["", "nonsense", "take", "take 1", "take 1 of", "take of a", "take 1 a", "take 1 with a", "take a of 1",
                    "take 1 of a b", "Take 1 of a", "take 1 of a of b", "give 1 of a", "fill 1 of a", "fill 1",
                    "fill 1 with", "fill with a", "fill 1 a", "fill 1 to a", "Fill 1 with a", "fill 1 with a b",
                    "parts 1 1 a", "parts: 1 a", "parts : 1 a", "parts 1: a", "parts 1: 1", "parts 1: 1 a 2 b",
                    "parts 1: 1 a; 2 b", "parts 1: 1 a,2 b", "parts 1: 1 a , 2 b", "parts 1: 1 a, ", "parts 1: 1 a,",
                    "parts 1: , 1 a", "parts 1: 1 of a", "parts 1: a 1", "parts 1: 1: a", "Parts 1: 1 a",
                    "parts 1 : 1 a", "parts 1:1 a", "part 1: 1 a", "parts 1: 1 a: 1 b", "1 to one", "1 to one of",
                    "to one of a", "1 to of a", "1 to one a", "1 to two of a", "1 of one to a", "1 To one of a",
                    "1 to 1 of a", "1 to one of a b", "to 1 a", "to 1 to one of a", "1 a", "1"]:
            self.row_refused(row)

    def test_blanks_just_as_told(self):
        good = "recipe x: take 1 of a; fill 2 with b; parts 3: 1 a, 2 b; 4 to one of a"
        self.assertEqual(len(read_book("ware a\n" + good)[2][0][1]), 4)
        for place in range(len(good)):
            if good[place] == " ":
                self.refused("ware a\n" + good[:place] + good[place + 1:], 1)
                self.refused("ware a\n" + good[:place] + "\t" + good[place + 1:], 1)
        for place in range(len(good) + 1):
            self.refused("ware a\n" + good[:place] + " " + good[place:], 1)

    def test_blanks_of_wares_and_pairs(self):
        for line in ["ware  a", " ware a", "ware a ", "ware\ta", "ware\u00a0a"]:
            self.refused(line, 0)
            self.refused("ware b\n" + line, 1)
        for line in ["apart  a b", "apart a  b", "apart a b ", " apart a b", "apart\ta b", "apart a\tb", "apart ab",
                     "aparta b"]:
            self.refused("ware b\n" + line, 1)

    def test_marks_that_lack_or_are_too_many(self):
        for line in ["recipe x: take 1 of a;", "recipe x: take 1 of a; ", "recipe x: ; take 1 of a",
                     "recipe x: take 1 of a;fill 2 with a", "recipe x: take 1 of a ; fill 2 with a",
                     "recipe x: take 1 of a, fill 2 with a", "recipe x: take 1 of a fill 2 with a",
                     "recipe x:: take 1 of a", "recipe x : take 1 of a", "recipe x; take 1 of a",
                     "recipe x: take 1 of a;; fill 2 with a", "recipe x: take 1 of a.", "recipe x: x: take 1 of a"]:
            self.refused("ware a\n" + line, 1)

    def test_a_to_row_is_never_the_first(self):
        self.refused("ware a\nrecipe x: 1 to one of a", 1)
        self.refused("ware a\nrecipe x: 1 to one of a; take 1 of a", 1)
        self.refused("ware a\nrecipe y: take 1 of a; 1 to one of a\nrecipe x: 2 to one of a; take 1 of a", 2)

    def test_an_earlier_kind_behind_a_later_one(self):
        self.refused("ware a\napart a b\nware b", 2)
        self.refused("ware a\nrecipe x: take 1 of a\nware b", 2)
        self.refused("ware a\nrecipe x: take 1 of a\napart a b", 2)
        self.refused("ware a\napart a b\nrecipe x: take 1 of a\napart a c", 3)
        self.refused("ware a\napart a b\nrecipe x: take 1 of a\nware c", 3)
        self.refused("ware a\napart a b\napart a c\nware b\nnonsense", 3)

    def test_the_first_row_is_a_wares(self):
        self.refused("apart a b", 0)
        self.refused("apart a b\nware a", 0)
        self.refused("recipe x: take 1 of a", 0)
        self.refused("recipe x: take 1 of a\nware a", 0)

    def test_empty_rows(self):
        self.refused("", 0)
        self.refused("\n", 0)
        self.refused("\nware a", 0)
        self.refused("ware a\n", 1)
        self.refused("ware a\n\n", 1)
        self.refused("ware a\n\nware b", 1)
        self.refused(WHOLE_TEXT + "\n", 8)

    def test_rows_are_parted_by_line_feeds_alone(self):
        for mark in ["\r\n", "\r", "\x0b", "\x0c", "\u2028", "\x85", "\\n", "|", " | ", "; "]:
            self.refused("ware a" + mark + "ware b", 0)

    def test_the_first_bad_row_is_told(self):
        lines = WHOLE_TEXT.split("\n")
        for first in range(len(lines)):
            for second in range(first, len(lines)):
                changed = list(lines)
                changed[first] = changed[first] + "!"
                changed[second] = "nonsense"
                self.refused("\n".join(changed), first)

    def test_one_sign_left_out_or_changed(self):
        for place, sign in enumerate(WHOLE_TEXT):
            row = WHOLE_TEXT[:place].count("\n")
            for other in ["", "!", "A"]:
                text = WHOLE_TEXT[:place] + other + WHOLE_TEXT[place + 1:]
                try:
                    book = read_book(text)
                except NoText as refusal:
                    self.assertEqual(refusal.row, row, text)
                else:
                    self.assertEqual(written(book), text)

    def test_what_is_no_text(self):
        for thing in [None, True, False, 0, 1, 1.5, b"ware a", ["ware a"], ("ware a",), {}, [], (), WHOLE_BOOK, str,
                      object()]:
            self.refused(thing, 0)

    def test_what_is_refused_is_a_new_refusal_each_time(self):
        self.refused("ware a\nnonsense", 1)
        self.refused("nonsense", 0)
        self.assertEqual(read_book(WHOLE_TEXT), WHOLE_BOOK)


if __name__ == "__main__":
    unittest.main()
