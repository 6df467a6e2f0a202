"""Looks at a book of recipes: refuses what cannot be made, and tells the order in which recipes rest on others."""

from phialhouse.amounts import NOUGHT, less, plus
from phialhouse.errors import Meet, NoName, NoPair, Over, Ring, Twice
from phialhouse.mixtures import whole
from phialhouse.recipes import put_by, things_of


def looked(book):
    refuse_twice(book)
    refuse_no_name(book)
    refuse_no_pair(book)
    order = order_of(book)
    if len(order) < len(book[2]):
        raise Ring(ring_beside(book, order))
    refuse_over(book)
    refuse_meet(book)
    return order


def recipe_names(book):
    return [name for name, rows in book[2]]


def refuse_twice(book):
    told = {}
    for name in list(book[0]) + recipe_names(book):
        if name in told:
            raise Twice(name)
        told[name] = True


def refuse_no_name(book):
    for pair in book[1]:
        for name in pair:
            if name not in book[0]:
                raise NoName(name, None)
    told = list(book[0]) + recipe_names(book)
    for recipe in recipe_names(book):
        for thing in things_of(book, recipe):
            if thing not in told:
                raise NoName(thing, recipe)


def refuse_no_pair(book):
    for one, other in book[1]:
        if one == other:
            raise NoPair(one)


# Recipes that stand in a ring, or rest on one, are never ready and so are not in the order.
def order_of(book):
    order = []
    ready = first_ready(book, order)
    while ready is not None:
        order.append(ready)
        ready = first_ready(book, order)
    return order


def first_ready(book, order):
    there = list(book[0]) + order
    for name in recipe_names(book):
        if name not in order and all([thing in there for thing in things_of(book, name)]):
            return name
    return None


# Each recipe that is not in the order has a thing that is not there either, so the walk comes back to its own way.
def ring_beside(book, order):
    left = [name for name in recipe_names(book) if name not in order]
    way = []
    name = left[0]
    while name not in way:
        way.append(name)
        name = [thing for thing in things_of(book, name) if thing in left][0]
    return way[way.index(name):]


def refuse_over(book):
    for name, rows in book[2]:
        place = first_over(rows)
        if place is not None:
            raise Over(name, place)


def first_over(rows):
    lies = NOUGHT
    for place, row in enumerate(rows):
        if row[0] == "fill" and less(row[1], lies):
            return place
        lies = plus(lies, whole(put_by(row, lies)))
    return None


def refuse_meet(book):
    for name in recipe_names(book):
        wares = wares_of(book, name)
        for one, other in book[1]:
            if one in wares and other in wares:
                raise Meet(name, one, other, (way_down(book, name, one), way_down(book, name, other)))


def way_down(book, recipe, ware):
    way = [recipe]
    while way[-1] != ware:
        way.append([thing for thing in things_of(book, way[-1]) if ware in wares_of(book, thing)][0])
    return way


def wares_of(book, thing):
    reached = {}
    waiting = [thing]
    while waiting != []:
        name = waiting.pop()
        # A recipe may be reached by very many ways; each is walked from once.
        if name not in reached:
            reached[name] = True
            waiting.extend(things_of(book, name))
    return sorted([name for name in reached if name in book[0]])
