"""The plain meaning of recipes: what lies in their bowls, what they make of an amount, what their rows put."""

from phialhouse.amounts import NOUGHT, over, plus, times
from phialhouse.looker import order_of
from phialhouse.mixtures import mixture, whole
from phialhouse.recipes import puts_as_written, rows_of


def whole_bowl(written):
    return whole([(thing, many) for place, thing, many in written])


def bowl(book, recipe):
    return made(book, recipe, whole_bowl(puts_as_written(rows_of(book, recipe))))


def made(book, thing, asked):
    needs = needs_of(book, thing, asked)
    return mixture([(name, needs[name]) for name in needs if name in book[0]])


def puts(book, recipe, asked):
    written = puts_as_written(rows_of(book, recipe))
    share = over(asked, whole_bowl(written))
    return [(place, thing, times(many, share)) for place, thing, many in written]


# How much of each thing is put, from the asked one down. Recipes are taken up only when all that need them were,
# so each is reckoned once, however many ways lead to it.
def needs_of(book, thing, asked):
    needs = {thing: asked}
    for name in reversed(order_of(book)):
        if name in needs:
            own_puts = puts(book, name, needs[name])
            for place, part, many in own_puts:
                needs[part] = plus(needs.get(part, NOUGHT), many)
    return needs
