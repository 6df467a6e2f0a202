"""Reads the text of a book of recipes. What cannot be read is told as None, up to read_book, which refuses it."""

from phialhouse.amounts import read_amount, read_figures
from phialhouse.errors import NoText
from phialhouse.mixtures import is_ware

# The kinds of a book's rows, in the order in which they stand, and how many of each there may be.
KINDS = ("ware", "apart", "recipe")
MOST_OF_KIND = (20, 30, 12)
MOST_ROWS = 6
MOST_PAIRS = 4
MOST_NUMBER = 1000
# The greatest number of nine figures.
MOST_IN_AMOUNT = 999999999


def read_book(text):
    if not isinstance(text, str):
        raise NoText(0)
    book = ([], [], [])
    # At the first row a ware's kind alone is let by, from then on the kind of the row ahead and later ones.
    lowest = 0
    highest = 0
    for place, line in enumerate(text.split("\n")):
        kind = kind_of(line)
        if kind is None or not lowest <= kind <= highest or len(book[kind]) == MOST_OF_KIND[kind]:
            raise NoText(place)
        entry = read_entry(kind, line.partition(" ")[2])
        if entry is None:
            raise NoText(place)
        book[kind].append(entry)
        lowest = kind
        highest = len(KINDS) - 1
    return tuple([tuple(entries) for entries in book])


def kind_of(line):
    word = line.partition(" ")[0]
    return KINDS.index(word) if word in KINDS else None


def read_entry(kind, rest):
    if KINDS[kind] == "ware":
        return read_name(rest)
    if KINDS[kind] == "apart":
        return read_apart(rest)
    return read_recipe(rest)


def all_or_none(parts):
    return None if None in parts else tuple(parts)


def read_name(word):
    return word if is_ware(word) else None


def read_apart(rest):
    words = rest.split(" ")
    if len(words) != 2:
        return None
    return all_or_none([read_name(word) for word in words])


def read_recipe(rest):
    cut = rest.partition(": ")
    rows = all_or_none([read_row(text) for text in cut[2].split("; ")])
    if rows is None or len(rows) > MOST_ROWS or rows[0][0] == "to":
        return None
    return all_or_none([read_name(cut[0]), rows])


def read_row(text):
    if text.startswith("parts "):
        return read_parts(text.partition(" ")[2])
    words = text.split(" ")
    if len(words) == 4 and (words[0], words[2]) in (("take", "of"), ("fill", "with")):
        return all_or_none([words[0], read_row_amount(words[1]), read_name(words[3])])
    if len(words) == 5 and words[1:4] == ["to", "one", "of"]:
        return all_or_none(["to", read_number(words[0]), read_name(words[4])])
    return None


def read_parts(rest):
    cut = rest.partition(": ")
    pairs = all_or_none([read_share(text) for text in cut[2].split(", ")])
    if pairs is None or len(pairs) > MOST_PAIRS:
        return None
    return all_or_none(["parts", read_row_amount(cut[0]), pairs])


def read_share(text):
    words = text.split(" ")
    if len(words) != 2:
        return None
    return all_or_none([read_number(words[0]), read_name(words[1])])


def read_row_amount(word):
    try:
        found = read_amount(word)
    except NoText:
        return None
    if not 1 <= found[0] <= MOST_IN_AMOUNT or found[1] > MOST_IN_AMOUNT:
        return None
    return found


def read_number(word):
    found = read_figures(word)
    if found is None or not 1 <= found <= MOST_NUMBER:
        return None
    return found
