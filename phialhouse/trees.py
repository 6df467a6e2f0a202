"""Trees: how a thing is put together of wares and recipes, part by part."""

from phialhouse.errors import TooLarge
from phialhouse.looker import order_of
from phialhouse.meaning import puts
from phialhouse.recipes import puts_as_written, rows_of


# Counted by recipes, not by walking the tree, since that may be far too large to be built.
def size_of(book, thing):
    sizes = {}
    for name in order_of(book):
        written = puts_as_written(rows_of(book, name))
        sizes[name] = 1 + sum([sizes.get(part, 1) for place, part, many in written])
    return sizes.get(thing, 1)


def tree(book, thing, asked, most=300):
    size = size_of(book, thing)
    if size > most:
        raise TooLarge(size)
    return grown(book, thing, asked)


def grown(book, thing, asked):
    if thing in book[0]:
        return ("ware", thing, asked)
    parts = [grown(book, part, many) for place, part, many in puts(book, thing, asked)]
    return ("recipe", thing, asked, tuple(parts))


def leaves(one):
    if one[0] == "ware":
        return [(one[1], one[2])]
    found = []
    for part in one[3]:
        found.extend(leaves(part))
    return found
