"""The desk: one book of recipes, one bench with its phials, and books of lots, told rows of words."""

from phialhouse.amounts import NOUGHT, ONE, less, shown_amount
from phialhouse.bench import clean, is_bench, is_rising
from phialhouse.books import Books
from phialhouse.errors import NoRow
from phialhouse.lines import amount_of, number_of, shown_list, shown_mixture, things_told, words_of
from phialhouse.looker import looked, recipe_names
from phialhouse.making import rows_made
from phialhouse.meaning import made
from phialhouse.needs import need_of
from phialhouse.reader import read_book
from phialhouse.strengths import asked_for
from phialhouse.trees import tree
from phialhouse.walking import done, walked

MOST_TREE = 120
MOST_MEASURES = 6
GREATEST_MEASURE = 1000
GREATEST_ROOM = 10000
BENCH_WORDS = ("hold", "clings", "empty", "rinse")
BOOK_WORDS = ("order", "mean", "need", "make")


class Desk:
    def __init__(self):
        self.book = (("water",), (), ())
        self.bench = ((ONE,), ())
        self.phials = clean(self.bench)
        self.books = Books()

    def say(self, row):
        words = words_of(row)
        if words is None:
            raise NoRow("this is no row of words")
        if words[0] == "book":
            return self.say_book(row.partition(" ")[2])
        if words[0] == "bench":
            return self.say_bench(words[1:])
        if words[0] == "strength":
            return say_strength(words[1:])
        things = things_told(words)
        if things is None:
            raise NoRow("there is no such row")
        if words[0] in BENCH_WORDS:
            return self.say_at_bench(words[0], things[0])
        if words[0] in BOOK_WORDS:
            return self.say_of_book(words[0], things)
        return say_of_lots(self.books, words[0], things)

    def say_book(self, text):
        if text == "":
            raise NoRow("a book has a text")
        book = read_book(text.replace(" | ", "\n"))
        looked(book)
        self.book = book
        self.lay_bench((self.bench[0], tuple(sorted(set([tuple(sorted(pair)) for pair in book[1]])))))
        return "ok"

    def lay_bench(self, bench):
        self.bench = bench
        self.phials = clean(bench)

    def say_bench(self, words):
        bench = (tuple([amount_of(word) for word in words]), self.bench[1])
        if not is_bench(bench):
            raise NoRow("a bench has one to sixteen rooms above nought")
        self.lay_bench(bench)
        return "ok"

    def say_at_bench(self, word, phial):
        if phial >= len(self.phials):
            raise NoRow("the bench has no such phial")
        if word == "hold":
            return shown_mixture(self.phials[phial][0])
        if word == "clings":
            return shown_list(self.phials[phial][1])
        self.phials = done(self.bench, self.phials, (word, phial))
        return "ok"

    def say_of_book(self, word, things):
        if word == "order":
            return shown_list(looked(self.book))
        name = things[0]
        if name not in recipe_names(self.book) and (word == "make" or name not in self.book[0]):
            raise NoRow("the book has no such thing")
        if word == "mean":
            return shown_mixture(made(self.book, name, things[1]))
        if word == "need":
            return str(need_of(tree(self.book, name, ONE, MOST_TREE)))
        return self.make(name, things[1])

    def make(self, name, asked):
        if asked == NOUGHT:
            raise NoRow("nothing is made of nought")
        told = rows_made(self.bench, self.phials, tree(self.book, name, asked, MOST_TREE))
        self.phials = walked(self.bench, self.phials, told[0])
        phial = told[1]
        many = len(told[0])
        return f"{phial} by {many}"


def say_strength(words):
    if not 2 <= len(words) <= 3:
        raise NoRow("a strength is asked with measures and perhaps a room")
    one = amount_of(words[0])
    measures = [number_of(word) for word in words[1].split(",")]
    if one is None or less(ONE, one) or not are_measures(measures):
        raise NoRow("this is no strength or these are no measures")
    room = sum(measures) if len(words) == 2 else number_of(words[2])
    if room is None or not 1 <= room <= GREATEST_ROOM:
        raise NoRow("this is no room")
    told = asked_for(measures, room, one)
    if told[0] == "none":
        return "none " + shown_list([shown_amount(other) for other in told[1]])
    return "made " + shown_list([f"{word}{measure}" for word, measure in told[1]])


def are_measures(numbers):
    if None in numbers or len(numbers) > MOST_MEASURES or not is_rising(numbers):
        return False
    return numbers[0] >= 1 and numbers[-1] <= GREATEST_MEASURE


def say_of_lots(books, word, things):
    if word == "take":
        return str(books.take(things[0], things[1], things[2], things[3]))
    if word == "pour":
        return str(books.pour(things[0], things[1], things[2]))
    if word == "give":
        return str(books.give(things[0], things[1], things[2]))
    if word == "go":
        return str(books.go(things[0]))
    if word == "back":
        return " ".join([str(part) for part in books.back()])
    if word == "held":
        return shown_mixture(books.held(things[0]))
    return shown_list([dose for dose, row in books.called(things[0])])
