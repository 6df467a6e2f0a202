"""Sheets: what each recipe needs and puts for an asked amount of one of them."""

from phialhouse.looker import order_of
from phialhouse.meaning import needs_of, puts
from phialhouse.mixtures import mixture


def sheet(book, recipe, asked):
    needs = needs_of(book, recipe, asked)
    return [(name, needs[name], puts(book, name, needs[name])) for name in reversed(order_of(book)) if name in needs]


def wares_put(book, listed):
    found = []
    for recipe, need, own_puts in listed:
        found.extend([(thing, many) for place, thing, many in own_puts if thing in book[0]])
    return mixture(found)
