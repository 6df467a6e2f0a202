"""The promise over the whole program: 0.4, and 0.2 over its parts."""

import random
import unittest
from fractions import Fraction

from phialhouse.bench import is_bench
from phialhouse.desk import Desk
from phialhouse.errors import PhialError
from phialhouse.gathering import shortened
from phialhouse.looker import looked
from phialhouse.making import rows_made
from phialhouse.meaning import made
from phialhouse.reader import read_book
from phialhouse.thinning import serves
from phialhouse.trees import size_of, tree
from phialhouse.writer import shown_book
from samples import (as_amount, as_fraction, as_mixture, frozen, is_apart, plain_done, plain_made, plain_need, some_let_by)


def shown(one):
    return str(Fraction(one[0], one[1]))


def read_mixture(text):
    """A mixture as the desk writes it: a dict from names to fractions."""
    if text == "-":
        return {}
    return {part.split(" ")[0]: Fraction(part.split(" ")[1]) for part in text.split(", ")}


def some_asked(source):
    most = 10 ** source.choice([1, 2, 60])
    return as_amount(Fraction(source.randrange(1, most), source.randrange(1, most)))


def bench_for(source, book, asked, need):
    """A bench with the book's pairs, just as many great rooms as the need or some more, and small ones between."""
    rooms = [as_amount(as_fraction(asked) * source.choice([1, 1, 2])) for number in range(need + source.choice([0, 0, 2]))]
    rooms += [as_amount(as_fraction(asked) / 2) for number in range(source.randrange(0, 3))]
    source.shuffle(rooms)
    return (tuple(rooms), tuple(sorted({tuple(sorted(pair)) for pair in book[1]})))


def some_clinging(source, book, bench):
    """Phials that hold nothing, to which some wares cling that may be together."""
    found = []
    for room in bench[0]:
        names = source.sample(book[0], min(len(book[0]), source.randrange(0, 4)))
        while is_apart(bench, names):
            names.pop()
        found.append(((), tuple(sorted(names))))
    return found


class WholeTest(unittest.TestCase):
    def walk(self, bench, phials, rows, need):
        """Does the rows one by one and looks behind each at rooms, pairs and how many phials hold something."""
        there = list(phials)
        for row in rows:
            word, there = plain_done(bench, there, row)[:2]
            self.assertEqual(word, "ok")
            for room, (holds, names) in zip(bench[0], there):
                self.assertLessEqual(sum([as_fraction(many) for ware, many in holds]), as_fraction(room))
                self.assertEqual(is_apart(bench, names), [])
            self.assertLessEqual(len([holds for holds, names in there if holds != ()]), need)
        return there


class TestBooksAtTheBench(WholeTest):
    def test_rows_leave_what_the_plain_meaning_tells(self):
        source = random.Random(211)
        many = 0
        for turn in range(120):
            book = some_let_by(source, most_recipes=source.choice([3, 6, 12]), most_rows=source.choice([2, 3, 6]))
            self.assertEqual(read_book(shown_book(book)), book)
            before = frozen(book)
            for name in looked(book):
                if size_of(book, name) <= 120:
                    self.made_at_a_bench(source, book, name)
                    many += 1
            self.assertEqual(frozen(book), before)
        self.assertGreater(many, 150)

    def made_at_a_bench(self, source, book, name):
        asked = some_asked(source)
        one = tree(book, name, asked)
        bench = bench_for(source, book, asked, plain_need(one))
        self.assertIs(is_bench(bench), True)
        phials = some_clinging(source, book, bench)
        rows, phial, stands = rows_made(bench, phials, one)
        there = self.walk(bench, phials, rows, plain_need(one))
        due = as_mixture(plain_made(book, name, as_fraction(asked)))
        self.assertEqual(there[phial][0], due)
        self.assertEqual(made(book, name, asked), due)
        if len(rows) <= 40:
            self.short_ones_serve(bench, phials, rows, phial, due)

    def short_ones_serve(self, bench, phials, rows, goal, due):
        short = shortened(bench, phials, rows, goal)
        self.assertLessEqual(len(short), len(rows))
        there = list(phials)
        for row in short:
            word, there = plain_done(bench, there, row)[:2]
            self.assertEqual(word, "ok")
        self.assertEqual(there[goal][0], due)
        for place in range(len(short)):
            self.assertFalse(serves(bench, phials, rows, short[:place] + short[place + 1:], goal))


class TestTheDesk(WholeTest):
    def test_what_make_leaves_is_what_mean_tells(self):
        source = random.Random(212)
        many = 0
        for turn in range(60):
            book = some_let_by(source, most_recipes=5, most_rows=3)
            desk = Desk()
            self.assertEqual(desk.say("book " + shown_book(book).replace("\n", " | ")), "ok")
            self.assertEqual(desk.say("order"), ",".join(looked(book)))
            for name in looked(book):
                if size_of(book, name) <= 120:
                    self.made_at_the_desk(source, desk, name)
                    many += 1
        self.assertGreater(many, 80)

    def made_at_the_desk(self, source, desk, name):
        asked = some_asked(source)
        need = int(desk.say(f"need {name}"))
        self.assertEqual(desk.say("bench " + " ".join([shown(asked)] * (need + 1))), "ok")
        due = desk.say(f"mean {name} {shown(asked)}")
        for left in range(need, need + 2):
            phial = desk.say(f"make {name} {shown(asked)}").split(" ")[0]
            self.assertEqual(desk.say(f"hold {phial}"), due)
            self.assertEqual(desk.say(f"clings {phial}"), ",".join(sorted(read_mixture(due))))
            if need > 1:
                break
        holding = [place for place in range(need + 1) if desk.say(f"hold {place}") != "-"]
        self.assertEqual(len(holding), 1 if need > 1 else 2)
        with self.assertRaises(PhialError):
            for turn in range(need + 2):
                desk.say(f"make {name} {shown(asked)}")

    def test_a_called_back_lot_names_just_the_doses_that_hold_some_of_it(self):
        source = random.Random(213)
        for turn in range(20):
            desk = Desk()
            lots, stores, doses = ["la", "lb", "lc"], ["sa", "sb", "sc"], [f"d{sign}" for sign in "abcdefghij"]
            for lot in lots:
                desk.say(f"take {lot} salt {source.randrange(5, 30)} {source.randrange(5, 20)}")
            for number in range(60):
                word = source.choice(["pour", "pour", "give", "go", "back"])
                goal = source.choice(stores if word == "pour" else doses)
                row = f"{word} {source.choice(lots + stores * 2)} {goal} {source.randrange(1, 9)}"
                try:
                    desk.say(row if word in ("pour", "give") else f"go {number // 10}" if word == "go" else "back")
                except PhialError:
                    pass
            for lot in lots:
                self.called_is(desk, lot, doses)

    def called_is(self, desk, lot, doses):
        due = []
        for dose in doses:
            try:
                held = read_mixture(desk.say(f"held {dose}"))
            except PhialError:
                continue
            if lot in held:
                due.append(dose)
        try:
            told = desk.say(f"called {lot}")
        except PhialError:
            return
        self.assertEqual(told, ",".join(due) or "-")


if __name__ == "__main__":
    unittest.main()
