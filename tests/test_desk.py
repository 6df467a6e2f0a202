"""phialhouse.desk: promises 10.1 to 10.3."""

import unittest

from phialhouse.desk import Desk
from phialhouse.errors import (Back, Few, Had, Lacks, Meet, NoAmount, NoName, NoneLeft, NoPair, NoRow, NoText, NoThing,
                               Over, PhialError, Ring, Stale, TooLarge, TooMany, Touch, Twice, Wet)
from phialhouse.looker import looked
from phialhouse.meaning import made
from phialhouse.needs import need_of
from phialhouse.reader import read_book
from phialhouse.strengths import asked_for
from phialhouse.trees import tree
from samples import ANYTHING

TEXT = ["ware water", "ware salt", "ware acid", "ware lye", "apart lye acid", "apart acid lye", "apart salt lye",
        "recipe paste: parts 3: 1 salt, 2 brine; take 1 of acid; 1 to one of brine",
        "recipe brine: take 1/2 of salt; fill 2 with water"]
BOOK = read_book("\n".join(TEXT))
BOOK_ROW = "book " + " | ".join(TEXT)


def desk_of(*rows):
    desk = Desk()
    for row in rows:
        desk.say(row)
    return desk


class DeskTest(unittest.TestCase):
    def answers(self, desk):
        """All that the desk tells without being changed."""
        found = []
        for row in (["order"] + [f"{word} {number}" for word in ("hold", "clings") for number in range(17)]
                    + [f"mean {name} 1" for name in ("water", "salt", "acid", "lye", "brine", "paste", "x")]
                    + [f"held {name}" for name in ("la", "lb", "s", "t", "d", "e")] + ["called la", "called lb"]):
            try:
                found.append((row, desk.say(row)))
            except PhialError as refusal:
                found.append((row, type(refusal)))
        return found

    def refused(self, desk, kind, said, **fields):
        before = self.answers(desk)
        with self.assertRaises(kind, msg=repr(said)) as caught:
            desk.say(said)
        self.assertIs(type(caught.exception), kind, said)
        for name, value in fields.items():
            self.assertEqual(getattr(caught.exception, name), value, said)
        self.assertEqual(self.answers(desk), before)

    def says(self, desk, row, text):
        self.assertEqual(desk.say(row), text, row)


class TestAtFirst(DeskTest):
    def test_the_desk_as_it_is(self):
        desk = Desk()
        self.says(desk, "order", "-")
        self.says(desk, "mean water 3/2", "water 3/2")
        self.says(desk, "need water", "0")
        self.says(desk, "hold 0", "-")
        self.says(desk, "clings 0", "-")
        self.refused(desk, NoRow, "hold 1")
        self.refused(desk, NoRow, "mean salt 1")
        self.refused(desk, NoneLeft, "back")
        self.refused(desk, NoThing, "held la")
        self.says(desk, "take la salt 3 9", "0")

    def test_two_desks_share_nothing(self):
        one, other = Desk(), Desk()
        one.say(BOOK_ROW)
        one.say("bench 2 2")
        one.say("make brine 1")
        one.say("take la salt 3 9")
        self.says(other, "order", "-")
        self.refused(other, NoRow, "hold 1")
        self.refused(other, NoThing, "held la")

    def test_its_room_is_one(self):
        desk = desk_of("book ware water | recipe x: take 1 of water")
        self.refused(desk, Few, "make x 100001/100000", need=1, ready=0)
        self.says(desk, "make x 1", "0 by 1")
        self.says(desk, "hold 0", "water 1")


class TestBook(DeskTest):
    def test_read_and_looked_at(self):
        desk = Desk()
        self.says(desk, BOOK_ROW, "ok")
        self.says(desk, "order", ",".join(looked(BOOK)))
        self.says(desk, "order", "brine,paste")
        self.says(desk, "mean brine 1", "salt 1/4, water 3/4")

    def test_of_one_ware(self):
        desk = desk_of(BOOK_ROW)
        self.says(desk, "book ware salt", "ok")
        self.says(desk, "order", "-")
        self.refused(desk, NoRow, "mean water 1")

    def test_the_phials_are_clean_from_then_on(self):
        desk = desk_of(BOOK_ROW, "bench 2 2", "make brine 1")
        self.says(desk, "clings 0", "salt,water")
        self.says(desk, BOOK_ROW, "ok")
        self.says(desk, "hold 0", "-")
        self.says(desk, "clings 0", "-")
        self.says(desk, "clings 1", "-")
        self.refused(desk, NoRow, "hold 2")

    def test_the_benchs_pairs_are_its_pairs(self):
        desk = desk_of("book ware a | ware b | ware c | apart c a | apart b a | apart a b", "bench 5 5")
        self.assertEqual(desk.bench, (((5, 1), (5, 1)), (("a", "b"), ("a", "c"))))
        self.says(desk, "bench 3", "ok")
        self.assertEqual(desk.bench, (((3, 1),), (("a", "b"), ("a", "c"))))
        self.says(desk, "book ware a", "ok")
        self.assertEqual(desk.bench, (((3, 1),), ()))
        pairs = [("h", "a"), ("b", "g"), ("f", "c"), ("a", "g"), ("e", "d"), ("c", "b"), ("g", "b"), ("d", "a"), ("h", "b")]
        lines = [f"ware {name}" for name in "abcdefgh"] + [f"apart {one} {other}" for one, other in pairs]
        self.says(desk, "book " + " | ".join(lines), "ok")
        self.assertEqual(desk.bench[1], (("a", "d"), ("a", "g"), ("a", "h"), ("b", "c"), ("b", "g"), ("b", "h"), ("c", "f"), ("d", "e")))

    def test_the_books_of_lots_stay(self):
        desk = desk_of("take la salt 3 9", BOOK_ROW, "bench 1")
        self.says(desk, "held la", "la 3")

    def test_refused_and_then_as_before(self):
        desk = desk_of(BOOK_ROW, "bench 2 2", "make brine 1", "take la salt 3 9")
        for text, kind, fields in [
            ("nonsense", NoText, {"row": 0}), ("ware a | nonsense", NoText, {"row": 1}), ("ware a| ware b", NoText, {"row": 0}),
            ("ware a |ware b", NoText, {"row": 0}), ("ware a | ware b | apart a", NoText, {"row": 2}), ("| ware a", NoText, {"row": 0}),
            ("ware a |", NoText, {"row": 0}), ("ware a | | ware b", NoText, {"row": 1}), ("|", NoText, {"row": 0}),
            ("ware\ta", NoText, {"row": 0}), ("ware a | recipe x: 1 to one of a", NoText, {"row": 1}),
            (" | ".join(["ware a"] * 21), NoText, {"row": 20}),
            ("ware a | ware a", Twice, {"name": "a"}), ("ware a | apart a b", NoName, {"name": "b", "recipe": None}),
            ("ware a | recipe x: take 1 of b", NoName, {"name": "b", "recipe": "x"}), ("ware a | apart a a", NoPair, {"name": "a"}),
            ("ware a | recipe x: take 1 of x", Ring, {"ring": ["x"]}),
            ("ware a | recipe x: take 2 of a; fill 1 with a", Over, {"recipe": "x", "place": 1}),
            ("ware a | ware b | apart a b | recipe x: take 1 of a; take 1 of b", Meet,
             {"recipe": "x", "one": "a", "other": "b", "ways": (["x", "a"], ["x", "b"])}),
        ]:
            self.refused(desk, kind, "book " + text, **fields)
        for row in ("book", "book ", " book ware a", "book  ware a", "book ware  a", "book ware a ", "book ware a\nware b",
                    "book ware a\n", "Book ware a"):
            self.refused(desk, NoRow, row)
        self.says(desk, "hold 0", "salt 1/4, water 3/4")


class TestBench(DeskTest):
    def test_rooms(self):
        desk = desk_of(BOOK_ROW, "bench 2", "make brine 1")
        self.says(desk, "bench 1/2 3 7/3", "ok")
        self.says(desk, "hold 2", "-")
        self.says(desk, "clings 0", "-")
        self.refused(desk, NoRow, "hold 3")
        self.says(desk, "bench " + " ".join(["1"] * 16), "ok")
        self.says(desk, "hold 15", "-")

    def test_no_rooms(self):
        desk = desk_of(BOOK_ROW, "bench 2 2", "make brine 1")
        for row in ("bench", "bench 0", "bench 1 0", "bench 2/4", "bench 1/0", "bench a", "bench 1,1", "bench -1", "bench 1  1",
                    "bench 01", "bench " + " ".join(["1"] * 17), "bench 1\t1", "bench " + "9" * 61):
            self.refused(desk, NoRow, row)
        self.says(desk, "bench " + "9" * 60, "ok")


class TestOfTheBook(DeskTest):
    def test_mean(self):
        desk = desk_of(BOOK_ROW)
        for name in ("water", "salt", "brine", "paste"):
            self.says(desk, f"mean {name} 0", "-")
            for asked, text in (((1, 1), "1"), ((7, 3), "7/3"), ((10 ** 60 - 1, 10 ** 59), "9" * 60 + "/1" + "0" * 59)):
                due = ", ".join([f"{ware} {top}" if bottom == 1 else f"{ware} {top}/{bottom}"
                                 for ware, (top, bottom) in made(BOOK, name, asked)])
                self.says(desk, f"mean {name} {text}", due)

    def test_need(self):
        desk = desk_of(BOOK_ROW)
        self.says(desk, "need salt", "0")
        for name in ("brine", "paste"):
            self.says(desk, f"need {name}", str(need_of(tree(BOOK, name, (1, 1)))))
        self.says(desk, "need paste", "2")

    def test_rows_that_are_none(self):
        desk = desk_of(BOOK_ROW)
        for row in ("mean", "mean salt", "mean 1 salt", "mean salt 1 1", "mean x 1", "mean Salt 1", "mean salt 2/4", "mean salt -1",
                    "mean salt x", "mean salt " + "9" * 61, "need", "need x", "need salt 1", "need Salt", "need 1", "order 1",
                    "order salt", "Order", "orders", "means salt 1", "mean  salt 1", " mean salt 1", "mean salt 1 ", "mean\tsalt 1",
                    "mean salt\t1", "mean salt 1\n", "\nmean salt 1"):
            self.refused(desk, NoRow, row)

    def test_trees_too_large(self):
        rows = "; ".join(["parts 4: 1 a, 1 a, 1 a, 1 a"] * 6)
        lines = ["ware a", f"recipe x: {rows}", "recipe y: parts 4: 1 x, 1 x, 1 x, 1 x; parts 4: 1 a, 1 a, 1 a, 1 a; "
                 "parts 4: 1 a, 1 a, 1 a, 1 a; parts 4: 1 a, 1 a, 1 a, 1 a; parts 4: 1 a, 1 a, 1 a, 1 a; parts 3: 1 a, 1 a, 1 a"]
        desk = desk_of("book " + " | ".join(lines), "bench 9 9")
        self.says(desk, "need y", "2")
        self.says(desk, "make y 1", "0 by 118")
        more = lines[:2] + [lines[2].replace("parts 3: 1 a, 1 a, 1 a", "parts 4: 1 a, 1 a, 1 a, 1 a")]
        desk = desk_of("book " + " | ".join(more), "bench 9 9")
        self.refused(desk, TooLarge, "need y", size=121)
        self.refused(desk, TooLarge, "make y 1", size=121)
        self.says(desk, "mean y 1", "a 1")


class TestMake(DeskTest):
    def test_made(self):
        desk = desk_of(BOOK_ROW, "bench 8 8 1")
        phial, word, many = desk.say("make paste 8").split(" ")
        self.assertEqual(word, "by")
        self.assertGreaterEqual(int(many), 7)
        self.says(desk, f"hold {phial}", desk.say("mean paste 8"))
        self.says(desk, f"clings {phial}", "acid,salt,water")
        for other in {"0", "1", "2"} - {phial}:
            self.says(desk, f"hold {other}", "-")

    def test_rows_counted(self):
        desk = desk_of("book ware a | ware b | recipe x: take 1 of a; take 1 of b", "bench 1 1")
        self.says(desk, "make x 1", "0 by 2")
        self.says(desk, "make x 1", "1 by 2")
        self.refused(desk, Few, "make x 1", need=1, ready=0)
        self.says(desk, "empty 1", "ok")
        self.says(desk, "make x 1/2", "1 by 3")
        self.says(desk, "hold 1", "a 1/4, b 1/4")

    def test_few(self):
        desk = desk_of(BOOK_ROW, "bench 8 7")
        self.refused(desk, Few, "make paste 8", need=2, ready=1)
        self.refused(desk, Few, "make paste 9", need=2, ready=0)
        desk.say("make brine 7")
        self.refused(desk, Few, "make paste 1", need=2, ready=1)

    def test_rows_that_are_none(self):
        desk = desk_of(BOOK_ROW, "bench 8 8")
        for row in ("make", "make brine", "make water 1", "make x 1", "make brine 0", "make brine -1", "make brine 2/4",
                    "make brine 1 1", "make 1 brine", "make Brine 1", "make water 0"):
            self.refused(desk, NoRow, row)

    def test_touch(self):
        # A book that is let by has no tree of such wares; so the bench is laid with a pair that the book has not.
        desk = desk_of(BOOK_ROW, "bench 8 8")
        desk.bench = (desk.bench[0], (("acid", "salt"), ("acid", "water")))
        self.refused(desk, Touch, "make paste 1", place=-1, phial=-1, pair=("acid", "salt"))


class TestAtTheBench(DeskTest):
    def test_hold_clings_empty_rinse(self):
        desk = desk_of(BOOK_ROW, "bench 2 2", "make brine 1")
        self.says(desk, "hold 0", "salt 1/4, water 3/4")
        self.says(desk, "clings 0", "salt,water")
        self.refused(desk, Wet, "rinse 0", place=0, phial=0)
        self.says(desk, "empty 0", "ok")
        self.says(desk, "hold 0", "-")
        self.says(desk, "clings 0", "salt,water")
        self.says(desk, "empty 0", "ok")
        self.says(desk, "rinse 0", "ok")
        self.says(desk, "clings 0", "-")
        self.says(desk, "rinse 1", "ok")

    def test_rows_that_are_none(self):
        desk = desk_of(BOOK_ROW, "bench 2 2", "make brine 1")
        for word in ("hold", "clings", "empty", "rinse"):
            for rest in ("", " 2", " 00", " 01", " -1", " 1000000000", " 0000000000", " x", " 0 0", "  0", " 0 ", " 1/2", " 0\n", " 0\t",
                         "\t0", "0"):
                self.refused(desk, NoRow, word + rest)


class TestStrength(DeskTest):
    def test_made(self):
        desk = Desk()
        self.says(desk, "strength 2/5 2,3", "made strong2,thin3")
        self.says(desk, "strength 0 2,3", "made thin2")
        self.says(desk, "strength 1 1000 1000", "made strong1000")
        for row, measures, room, one in (("strength 1/4 1,3", [1, 3], 4, (1, 4)), ("strength 1/3 1,2 9", [1, 2], 9, (1, 3)),
                                         ("strength 1/8 1 2", [1], 2, (1, 8))):
            told = asked_for(measures, room, one)
            self.assertEqual(told[0], "made")
            self.says(desk, row, "made " + ",".join([f"{word}{number}" for word, number in told[1]]))

    def test_none(self):
        desk = Desk()
        self.says(desk, "strength 1/2 3 2", "none -")
        self.says(desk, "strength 1/3 1 1", "none 0,1")
        told = asked_for([1], 2, (1, 3))
        self.assertEqual(told[0], "none")
        self.says(desk, "strength 1/3 1 2", "none " + ",".join([str(top) if bottom == 1 else f"{top}/{bottom}"
                                                               for top, bottom in told[1]]))

    def test_the_room_is_the_sum_where_none_is_told(self):
        desk = Desk()
        self.assertEqual(desk.say("strength 1/7 1,2"), desk.say("strength 1/7 1,2 3"))
        self.assertNotEqual(desk.say("strength 1/5 1,2"), desk.say("strength 1/5 1,2 7"))

    def test_too_many(self):
        self.refused(Desk(), TooMany, "strength 1/1009 1,2,3,5,7,11 60", most=2000)

    def test_rows_that_are_none(self):
        desk = Desk()
        for rest in ("", " 1/2", " 1,2", " 3/2 1,2", " 2 1", " 1/2 2,1", " 1/2 1,1", " 1/2 0,1", " 1/2 0", " 1/2 1001", " 1/2 1,1001",
                     " 1/2 1,2,3,4,5,6,7", " 1/2 1,,2", " 1/2 ,1", " 1/2 1,", " 1/2 1, 2", " 1/2 01", " 1/2 1;2", " 1/2 a", " 1/2 -1",
                     " 2/4 1", " 1/2 1,2 0", " 1/2 1,2 10001", " 1/2 1,2 03", " 1/2 1,2 x", " 1/2 1,2 3 4", " 1/2 1,2 1000000000",
                     " 1/2 1000000000", " x 1,2", "  1/2 1", " 1/2  1", " 1/2 1/2"):
            self.refused(desk, NoRow, "strength" + rest)
        self.assertEqual(desk.say("strength 1 1,2,3,4,5,1000 10000"), "made strong1")


class TestLots(DeskTest):
    def test_every_row(self):
        desk = Desk()
        for number, row in enumerate(["take la salt 5 9", "take lb oil 4 7", "pour la s 2", "pour lb s 1", "go 3", "give s d 2",
                                      "give la e 1"]):
            self.says(desk, row, str(number))
        self.says(desk, "held la", "la 2")
        self.says(desk, "held s", "la 2/3, lb 1/3")
        self.says(desk, "held d", "la 4/3, lb 2/3")
        self.says(desk, "called la", "d,e")
        self.says(desk, "called lb", "d")
        self.says(desk, "pour s t 1", "7")
        self.says(desk, "held s", "-")
        for text in ("pour s t 1", "give la e 1", "give s d 2", "go 3", "pour lb s 1", "pour la s 2", "take lb oil 4 7",
                     "take la salt 5 9"):
            self.says(desk, "back", text)
        self.refused(desk, NoneLeft, "back")

    def test_called_of_none(self):
        desk = desk_of("take la salt 5 9")
        self.says(desk, "called la", "-")

    def test_refused_as_the_books_refuse(self):
        desk = desk_of("take la salt 5 9", "pour la s 2", "give s d 1", "go 4")
        for row, kind, fields in [
            ("take la salt 1 1", Had, {}), ("take lb salt 0 1", NoAmount, {}), ("take lb salt 1000001 1", NoAmount, {}),
            ("take lb salt 1 999999999", NoAmount, {}), ("pour x s 1", NoThing, {}), ("pour la la 1", NoThing, {}),
            ("pour la d 1", NoThing, {}), ("pour d s 1", NoThing, {}), ("pour la s 0", NoAmount, {}), ("pour la s 4", Lacks, {"there": 3}),
            ("give s d 1", Had, {}), ("give x e 1", NoThing, {}), ("give s e 2", Lacks, {"there": 1}), ("go 3", Back, {}),
            ("go 999999999", NoAmount, {}), ("held x", NoThing, {}), ("called s", NoThing, {}), ("called x", NoThing, {}),
        ]:
            self.refused(desk, kind, row, **fields)
        desk.say("go 10")
        self.refused(desk, Stale, "give s e 1", lots=["la"])

    def test_rows_that_are_none(self):
        desk = desk_of("take la salt 5 9")
        for row in ("take", "take lb", "take lb salt", "take lb salt 1", "take lb salt 1 1 1", "take Lb salt 1 1", "take lb Salt 1 1",
                    "take lb salt 01 1", "take lb salt 1 -1", "take lb salt 1000000000 1", "take lb salt 1 1000000000",
                    "take abcdefghi salt 1 1", "take lb salt 1/2 1", "take lb 1 salt 1", "pour la s", "pour la s 1 1", "pour la 1 s",
                    "pour la S 1", "pour la s x", "give la d", "give la d 1 1", "give la d1 1", "give la d 00", "go", "go 1 1", "go x",
                    "go 01", "go -1", "go 1000000000", "back 1", "back la", "Back", "held", "held la la", "held La", "held 1",
                    "called", "called la la", "called LA", "take  lb salt 1 1", "take lb salt 1 1 ", " take lb salt 1 1",
                    "take lb salt 1 1\n", "take lb\tsalt 1 1", "take\nlb salt 1 1"):
            self.refused(desk, NoRow, row)


class TestNoRow(DeskTest):
    def test_other_words(self):
        desk = desk_of(BOOK_ROW)
        for row in ("", " ", "\n", "\t", "x", "done", "names", "today", "draw 0 salt 1", "fill 0 salt 1", "say order", "order order",
                    "| order", "order |", "ok", "-", "0", "\u00a0order", "order\u00a0", "order\r"):
            self.refused(desk, NoRow, row)

    def test_things_that_are_no_text(self):
        desk = desk_of(BOOK_ROW)
        for thing in ANYTHING + [["order"], ("order",), b"order", {"order": 1}]:
            if not isinstance(thing, str):
                self.refused(desk, NoRow, thing)
        for thing in [one for one in ANYTHING if isinstance(one, str)]:
            self.refused(desk, NoRow, thing)

    def test_every_answer_is_a_text(self):
        desk = Desk()
        for row in (BOOK_ROW, "order", "bench 2 2", "mean brine 1", "need brine", "make brine 1", "hold 0", "clings 0", "empty 0",
                    "rinse 0", "strength 1 1", "take la salt 1 1", "pour la s 1", "give s d 1", "go 1", "held d", "called la", "back"):
            self.assertIs(type(desk.say(row)), str, row)


if __name__ == "__main__":
    unittest.main()
