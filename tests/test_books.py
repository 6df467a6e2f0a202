"""phialhouse.books: promises 8.1 to 8.8."""

import random
import unittest
from fractions import Fraction

from phialhouse.books import Books
from phialhouse.errors import Back, Had, Lacks, NoAmount, NoneLeft, NoThing, PhialError, Stale
from samples import ANYTHING, as_amount, frozen, spoil

MOST = 10 ** 6
NO_NAMES = [None, True, 0, 5, "", "abcdefghi", "Ab", "a b", "a1", [], ["la"], (), ("la",), {}, {"la": 1}, 1.5, b"la", object()]
NO_SPOONS = [0, -1, MOST + 1, 10 ** 30, True, False, None, "1", 1.0, (1, 1), [1], {}, object()]
NO_DAYS = [-1, MOST + 1, True, False, None, "1", 1.0, (1, 1), [1], {}, object()]


class PlainBooks:
    """Books reckoned anew from the list of deeds each time: what a lot, store or dose is after each of them."""

    def __init__(self, deeds):
        self.words, self.lasts, self.today = {}, {}, 0
        self.states = [{}]
        for deed in deeds:
            self.states.append(self.behind(deed))

    def behind(self, deed):
        state = {name: dict(holding) for name, holding in self.states[-1].items()}
        if deed[0] == "go":
            self.today = deed[1]
        elif deed[0] == "take":
            self.words[deed[1]], self.lasts[deed[1]] = "lot", deed[4]
            state[deed[1]] = {deed[1]: Fraction(deed[3])}
        else:
            self.words.setdefault(deed[2], "store" if deed[0] == "pour" else "dose")
            source, goal = state[deed[1]], state.setdefault(deed[2], {})
            total = sum(source.values())
            for lot, part in list(source.items()):
                goal[lot] = goal.get(lot, Fraction(0)) + part * deed[3] / total
                source[lot] = part - part * deed[3] / total
            if deed[3] == total:
                source.clear()
        return state

    def held(self, name):
        return [(lot, as_amount(part)) for lot, part in sorted(self.states[-1][name].items())]

    def total(self, name):
        return sum(self.states[-1][name].values(), Fraction(0))

    def last(self, name):
        return min([self.lasts[lot] for lot in self.states[-1][name]], default=None)

    def stale(self, name):
        return sorted([lot for lot in self.states[-1][name] if self.lasts[lot] < self.today])

    def refusal(self, deed):
        """The refusal that is due of such a deed by 8.4, with its fields, or None."""
        def is_name(thing):
            return isinstance(thing, str) and 1 <= len(thing) <= 8 and all("a" <= sign <= "z" for sign in thing)

        def is_number(thing, least):
            return isinstance(thing, int) and not isinstance(thing, bool) and least <= thing <= MOST

        word, things = deed[0], deed[1:]
        if word == "go":
            if not is_number(things[0], 0):
                return (NoAmount, {})
            return (Back, {}) if things[0] < self.today else None
        if word == "take":
            if not is_name(things[0]) or not is_name(things[1]):
                return (NoThing, {})
            if things[0] in self.words:
                return (Had, {})
            return None if is_number(things[2], 1) and is_number(things[3], 0) else (NoAmount, {})
        source, goal, many = things
        if not is_name(source) or self.words.get(source) not in ("lot", "store") or not is_name(goal):
            return (NoThing, {})
        if word == "pour" and (goal == source or self.words.get(goal) in ("lot", "dose")):
            return (NoThing, {})
        if word == "give" and goal in self.words:
            return (Had, {})
        if not is_number(many, 1):
            return (NoAmount, {})
        if many > self.total(source):
            return (Lacks, {"there": self.total(source)})
        return (Stale, {"lots": self.stale(source)}) if self.stale(source) else None


def do(books, deed):
    return {"take": books.take, "pour": books.pour, "give": books.give, "go": books.go}[deed[0]](*deed[1:])


def books_of(*deeds):
    books = Books()
    for number, deed in enumerate(deeds):
        assert do(books, deed) == number
    return books


class BooksTest(unittest.TestCase):
    def refused(self, kind, fields, function, *given):
        with self.assertRaises(kind, msg=repr(given)) as caught:
            function(*given)
        self.assertIs(type(caught.exception), kind)
        self.assertEqual(vars(caught.exception), fields)

    def answers(self, books):
        """All that books can be asked, lists laid down as they are."""
        names = [name for name, word in books.names()]
        lots = [name for name, word in books.names() if word == "lot"]
        return frozen([books.done(), books.today(), books.names(), [books.held(name) for name in names],
                       [books.total(name) for name in names], [books.last(name) for name in names],
                       [books.rows_to(name) for name in names], [books.called(lot) for lot in lots]])

    def row_holds(self, plain, deeds, lot, row, goal):
        """8.5, walked."""
        self.assertIs(type(row), list)
        self.assertEqual(row, sorted(set(row)))
        there = lot
        for place, number in enumerate(row):
            deed = deeds[number]
            self.assertIn(deed[0], ("pour", "give"))
            self.assertEqual(deed[1], there)
            there = deed[2]
            until = row[place + 1] if place + 1 < len(row) else len(deeds)
            for state in plain.states[number + 1:until + 1]:
                self.assertNotEqual(state[there], {})
        self.assertEqual(there, goal)

    def looked_at(self, books, deeds):
        plain = PlainBooks(deeds)
        self.assertEqual(books.done(), deeds)
        self.assertEqual(books.today(), plain.today)
        self.assertEqual(books.names(), sorted(plain.words.items()))
        for name, word in plain.words.items():
            held = books.held(name)
            self.assertEqual(held, plain.held(name))
            self.assertEqual(books.total(name), plain.total(name))
            self.assertIs(type(books.total(name)), int)
            self.assertEqual(books.last(name), plain.last(name))
            rows = books.rows_to(name)
            self.assertEqual([lot for lot, row in rows], [lot for lot, part in held])
            for lot, row in rows:
                if word == "lot":
                    self.assertEqual((lot, row), (name, []))
                else:
                    self.row_holds(plain, deeds, lot, row, name)
            if word == "lot":
                called = books.called(name)
                due = [dose for dose in sorted(plain.words) if plain.words[dose] == "dose" and name in plain.states[-1][dose]]
                self.assertEqual([dose for dose, row in called], due)
                for dose, row in called:
                    self.row_holds(plain, deeds, name, row, dose)


class TestDeeds(BooksTest):
    def test_numbers_and_names(self):
        books = Books()
        self.assertEqual((books.done(), books.today(), books.names()), ([], 0, []))
        self.assertEqual(books.take("la", "salt", 5, 9), 0)
        self.assertEqual(books.pour("la", "sa", 3), 1)
        self.assertEqual(books.go(4), 2)
        self.assertEqual(books.give("sa", "da", 2), 3)
        self.assertEqual(books.done(), [("take", "la", "salt", 5, 9), ("pour", "la", "sa", 3), ("go", 4), ("give", "sa", "da", 2)])
        self.assertEqual(books.today(), 4)
        self.assertEqual(books.names(), [("da", "dose"), ("la", "lot"), ("sa", "store")])
        self.looked_at(books, books.done())

    def test_bounds(self):
        books = books_of(("take", "a", "z", MOST, 0), ("take", "abcdefgh", "stuvwxyz", 1, MOST), ("pour", "a", "s", MOST))
        self.assertEqual([books.total(name) for name in ("a", "abcdefgh", "s")], [0, 1, MOST])
        self.assertEqual(books.go(0), 3)
        self.assertEqual(books.go(MOST), 4)

    def test_a_ware_and_a_lot_may_share_a_name(self):
        books = books_of(("take", "salt", "salt", 5, 9), ("take", "lb", "salt", 5, 9))
        self.looked_at(books, books.done())

    def test_shares(self):
        books = books_of(("take", "la", "salt", 1, 9), ("take", "lb", "salt", 2, 5), ("pour", "la", "s", 1), ("pour", "lb", "s", 2),
                         ("give", "s", "d", 1))
        self.assertEqual(books.held("s"), [("la", (2, 3)), ("lb", (4, 3))])
        self.assertEqual(books.held("d"), [("la", (1, 3)), ("lb", (2, 3))])
        self.assertEqual((books.held("la"), books.total("la"), books.last("la"), books.rows_to("la")), ([], 0, None, []))
        self.assertEqual((books.last("s"), books.last("d"), books.total("d")), (5, 5, 1))
        self.assertEqual(books.rows_to("d"), [("la", [2, 4]), ("lb", [3, 4])])
        self.assertEqual(books.called("la"), [("d", [2, 4])])

    def test_a_store_poured_out_holds_nothing_and_may_be_poured_into_again(self):
        books = books_of(("take", "la", "salt", 4, 9), ("take", "lb", "salt", 4, 3), ("pour", "la", "s", 2), ("pour", "s", "t", 2))
        self.assertEqual((books.held("s"), books.total("s"), books.last("s"), books.rows_to("s")), ([], 0, None, []))
        self.assertEqual(books.pour("lb", "s", 1), 4)
        self.assertEqual(books.give("s", "d", 1), 5)
        self.assertEqual(books.held("d"), [("lb", (1, 1))])
        self.assertEqual((books.called("la"), books.called("lb")), ([], [("d", [4, 5])]))
        self.looked_at(books, books.done())

    def test_a_way_through_an_empty_store_leads_no_further(self):
        books = books_of(("take", "la", "salt", 4, 9), ("pour", "la", "s", 2), ("pour", "s", "t", 2), ("pour", "la", "s", 1),
                         ("pour", "s", "t", 1), ("give", "t", "d", 3))
        self.looked_at(books, books.done())
        books = books_of(("take", "la", "salt", 4, 9), ("take", "lb", "salt", 4, 9), ("pour", "la", "s", 2), ("give", "s", "da", 2),
                         ("pour", "lb", "s", 2), ("pour", "s", "t", 1), ("pour", "la", "t", 1), ("give", "t", "db", 1))
        self.looked_at(books, books.done())
        self.assertEqual(books.called("la"), [("da", [2, 3]), ("db", [6, 7])])

    def test_to_and_fro(self):
        books = books_of(("take", "la", "salt", 9, 9), ("pour", "la", "s", 5), ("pour", "s", "t", 2), ("pour", "t", "s", 1),
                         ("pour", "s", "t", 4), ("give", "t", "d", 1), ("give", "t", "e", 4), ("give", "la", "f", 4))
        self.looked_at(books, books.done())
        self.assertEqual([dose for dose, row in books.called("la")], ["d", "e", "f"])
        self.assertEqual(books.held("t"), [])


class TestRefused(BooksTest):
    def setUp(self):
        self.deeds = [("take", "la", "salt", 5, 2), ("take", "lb", "salt", 5, 7), ("pour", "la", "s", 3), ("pour", "lb", "s", 1),
                      ("give", "s", "d", 1), ("go", 2)]
        self.books = books_of(*self.deeds)

    def unchanged(self):
        self.looked_at(self.books, self.deeds)

    def test_no_thing(self):
        books = self.books
        for thing in NO_NAMES:
            self.refused(NoThing, {}, books.take, thing, "salt", 1, 1)
            self.refused(NoThing, {}, books.take, "lc", thing, 1, 1)
            self.refused(NoThing, {}, books.pour, thing, "t", 1)
            self.refused(NoThing, {}, books.pour, "la", thing, 1)
            self.refused(NoThing, {}, books.give, thing, "e", 1)
            self.refused(NoThing, {}, books.give, "la", thing, 1)
            for function in (books.held, books.total, books.last, books.rows_to, books.called):
                self.refused(NoThing, {}, function, thing)
        for source in ("d", "x", "salt"):
            self.refused(NoThing, {}, books.pour, source, "t", 1)
            self.refused(NoThing, {}, books.give, source, "e", 1)
        for goal in ("la", "lb", "d"):
            self.refused(NoThing, {}, books.pour, "s" if goal != "s" else "la", goal, 1)
            self.refused(NoThing, {}, books.pour, "la", goal, 1)
        self.refused(NoThing, {}, books.pour, "s", "s", 1)
        for name in ("d", "s", "x", "salt"):
            self.refused(NoThing, {}, books.called, name)
        for function in (books.held, books.total, books.last, books.rows_to):
            self.refused(NoThing, {}, function, "x")
        self.unchanged()

    def test_had(self):
        for name in ("la", "s", "d"):
            self.refused(Had, {}, self.books.take, name, "salt", 1, 1)
            self.refused(Had, {}, self.books.give, "lb", name, 1)
        self.unchanged()

    def test_no_amount(self):
        books = self.books
        for many in NO_SPOONS:
            self.refused(NoAmount, {}, books.take, "lc", "salt", many, 1)
            self.refused(NoAmount, {}, books.pour, "lb", "t", many)
            self.refused(NoAmount, {}, books.give, "lb", "e", many)
        for day in NO_DAYS:
            self.refused(NoAmount, {}, books.take, "lc", "salt", 1, day)
            self.refused(NoAmount, {}, books.go, day)
        self.unchanged()

    def test_lacks(self):
        for source, there in (("la", 2), ("lb", 4), ("s", 3)):
            self.refused(Lacks, {"there": there}, self.books.pour, source, "t", there + 1)
            self.refused(Lacks, {"there": there}, self.books.give, source, "e", MOST)
        books = books_of(("take", "la", "salt", 5, 2), ("pour", "la", "s", 5))
        self.refused(Lacks, {"there": 0}, books.pour, "la", "s", 1)
        self.refused(Lacks, {"there": 0}, books.give, "la", "d", 1)
        self.unchanged()

    def test_stale(self):
        books = self.books
        # A last day that is today's is not over yet.
        self.assertEqual(books.pour("s", "t", 1), 6)
        books.go(3)
        deeds = self.deeds + [("pour", "s", "t", 1), ("go", 3)]
        for source, many in (("la", 1), ("s", 1), ("t", 1)):
            self.refused(Stale, {"lots": ["la"]}, books.pour, source, "u", many)
            self.refused(Stale, {"lots": ["la"]}, books.give, source, "e", many)
        self.assertEqual(books.pour("lb", "s", 1), 8)
        books.go(8)
        deeds += [("pour", "lb", "s", 1), ("go", 8)]
        self.refused(Stale, {"lots": ["la", "lb"]}, books.give, "s", "e", 1)
        self.looked_at(books, deeds)

    def test_stale_lots_are_sorted_and_the_askers_own(self):
        books = books_of(("take", "lc", "salt", 5, 2), ("take", "la", "salt", 5, 2), ("take", "lb", "salt", 5, 4),
                         ("pour", "lc", "s", 1), ("pour", "la", "s", 1), ("pour", "lb", "s", 1), ("go", 3))
        for turn in range(2):
            with self.assertRaises(Stale) as caught:
                books.give("s", "d", 1)
            self.assertEqual(caught.exception.lots, ["la", "lc"])
            spoil(caught.exception.lots)

    def test_back_in_days(self):
        self.refused(Back, {}, self.books.go, 1)
        self.refused(Back, {}, self.books.go, 0)
        self.unchanged()
        self.assertEqual(self.books.go(2), 6)

    def test_the_first_that_is_due(self):
        books = self.books
        books.go(3)
        for given, kind, fields in [
            ((books.take, None, None, None, None), NoThing, {}), ((books.take, "la", 5, 0, -1), NoThing, {}),
            ((books.take, "la", "salt", 0, -1), Had, {}), ((books.take, "lc", "salt", 0, -1), NoAmount, {}),
            ((books.pour, "x", "la", 0), NoThing, {}), ((books.pour, "la", "lb", 0), NoThing, {}),
            ((books.pour, "la", "t", 0), NoAmount, {}), ((books.pour, "la", "t", 3), Lacks, {"there": 2}),
            ((books.pour, "la", "t", 2), Stale, {"lots": ["la"]}), ((books.give, "x", "d", 0), NoThing, {}),
            ((books.give, "la", 5, 0), NoThing, {}), ((books.give, "la", "d", 0), Had, {}),
            ((books.give, "la", "d", 9), Had, {}), ((books.give, "la", "e", 0), NoAmount, {}),
            ((books.give, "la", "e", 9), Lacks, {"there": 2}), ((books.give, "la", "e", 1), Stale, {"lots": ["la"]}),
            ((books.go, -1), NoAmount, {}), ((books.go, 2), Back, {}),
        ]:
            self.refused(kind, fields, *given)
        self.looked_at(books, self.deeds + [("go", 3)])

    def test_a_refused_deed_has_no_number(self):
        self.refused(NoAmount, {}, self.books.take, "lc", "salt", 0, 1)
        self.assertEqual(self.books.take("lc", "salt", 1, 1), 6)


class TestBack(BooksTest):
    def test_each_kind_of_deed(self):
        deeds = [("take", "la", "salt", 5, 9), ("take", "lb", "salt", 5, 9), ("pour", "la", "s", 3), ("pour", "lb", "s", 2),
                 ("go", 4), ("give", "s", "d", 1), ("pour", "s", "t", 4), ("go", 4), ("give", "t", "e", 4)]
        books = books_of(*deeds)
        for many in range(len(deeds), 0, -1):
            self.looked_at(books, deeds[:many])
            self.assertEqual(books.back(), deeds[many - 1])
            self.assertEqual(self.answers(books), self.answers(books_of(*deeds[:many - 1])))
        self.refused(NoneLeft, {}, books.back)
        self.assertEqual(self.answers(books), self.answers(Books()))

    def test_a_new_store_is_gone(self):
        books = books_of(("take", "la", "salt", 5, 9), ("pour", "la", "s", 3))
        self.assertEqual(books.back(), ("pour", "la", "s", 3))
        self.refused(NoThing, {}, books.held, "s")
        self.assertEqual(books.give("la", "s", 5), 1)
        self.assertEqual(books.names(), [("la", "lot"), ("s", "dose")])

    def test_a_day_taken_back(self):
        books = books_of(("take", "la", "salt", 5, 9), ("go", 3), ("go", 20))
        self.refused(Stale, {"lots": ["la"]}, books.give, "la", "d", 1)
        self.assertEqual(books.back(), ("go", 20))
        self.assertEqual(books.today(), 3)
        self.assertEqual(books.give("la", "d", 1), 2)

    def test_none_left(self):
        books = Books()
        self.refused(NoneLeft, {}, books.back)
        self.assertEqual(books.take("la", "salt", 1, 1), 0)
        books.back()
        self.refused(NoneLeft, {}, books.back)
        self.assertEqual(books.take("la", "oil", 1, 1), 0)
        self.assertEqual(books.done(), [("take", "la", "oil", 1, 1)])


class TestToldLists(BooksTest):
    def test_they_are_the_askers_own(self):
        books = books_of(("take", "la", "salt", 5, 9), ("take", "lb", "salt", 5, 9), ("pour", "la", "s", 3), ("pour", "lb", "s", 2),
                         ("give", "s", "d", 1))
        before = self.answers(books)
        for told in (lambda: books.held("s"), lambda: books.rows_to("d"), lambda: books.rows_to("la"), lambda: books.called("la"),
                     lambda: books.done(), lambda: books.names()):
            first = told()
            again = frozen(first)
            spoil(first)
            self.assertEqual(frozen(told()), again)
        self.assertEqual(self.answers(books), before)
        kept = [books.held("s"), books.rows_to("d"), books.called("la"), books.done(), books.names()]
        told = frozen(kept)
        books.give("s", "e", 4)
        books.back()
        books.back()
        self.assertEqual(frozen(kept), told)

    def test_two_books_share_nothing(self):
        one, other = books_of(("take", "la", "salt", 5, 9)), Books()
        self.assertEqual((other.names(), other.done()), ([], []))
        other.take("la", "oil", 1, 1)
        self.assertEqual(one.total("la"), 5)


class TestMany(BooksTest):
    def some_deed(self, source, plain):
        lots, stores, doses = ["la", "lb", "lc", "ld"], ["sa", "sb", "sc"], [f"d{sign}" for sign in "abcdefgh"]
        names = lots + stores * 2 + doses
        word = source.choice(["take", "pour", "pour", "pour", "give", "give", "go"])
        if word == "go":
            return ("go", plain.today + source.choice([0, 0, 1, 1, 2, -1]))
        if word == "take":
            return ("take", source.choice(lots + names[:1]), source.choice(["salt", "oil"]), source.randrange(1, 40),
                    plain.today + source.randrange(-1, 30))
        origin = source.choice(lots + stores * 3 + doses[:1])
        there = int(plain.total(origin)) if origin in plain.words else 3
        many = source.choice([1, 2, there, there, max(1, there // 2), there + 1])
        goal = source.choice(stores if word == "pour" else doses) if source.random() < 0.95 else source.choice(names)
        return (word, origin, goal, many)

    def spoilt_deed(self, source, deed):
        place = source.randrange(1, len(deed))
        return deed[:place] + (source.choice(ANYTHING + NO_NAMES + NO_SPOONS),) + deed[place + 1:]

    def test_many_deeds(self):
        source = random.Random(191)
        seen = {}
        for turn in range(25):
            books, deeds = Books(), []
            for number in range(60):
                plain = PlainBooks(deeds)
                deed = self.some_deed(source, plain)
                if source.random() < 0.1:
                    deed = self.spoilt_deed(source, deed)
                due = plain.refusal(deed)
                if source.random() < 0.15 and deeds:
                    self.assertEqual(books.back(), deeds.pop())
                elif due is None:
                    self.assertEqual(do(books, deed), len(deeds))
                    deeds.append(deed)
                else:
                    with self.assertRaises(PhialError) as caught:
                        do(books, deed)
                    self.assertEqual((type(caught.exception), vars(caught.exception)), due, (deeds, deed))
                    seen[due[0].__name__] = seen.get(due[0].__name__, 0) + 1
                self.looked_at(books, deeds)
            self.assertEqual(self.answers(books), self.answers(books_of(*deeds)))
        self.assertEqual(sorted(seen), ["Back", "Had", "Lacks", "NoAmount", "NoThing", "Stale"])


if __name__ == "__main__":
    unittest.main()
