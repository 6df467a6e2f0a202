"""Recipes of a book, row by row: the things they name and what they put into the bowl."""

from phialhouse.amounts import NOUGHT, minus, over, plus, times
from phialhouse.mixtures import whole


def rows_of(book, name):
    for recipe, rows in book[2]:
        if recipe == name:
            return rows
    return ()


def things_in(row):
    if row[0] == "parts":
        return [thing for number, thing in row[2]]
    return [row[2]]


# A ware has no things, so whoever walks a book downwards may ask of all names alike.
def things_of(book, name):
    found = []
    for row in rows_of(book, name):
        found.extend(things_in(row))
    return found


def shares(all_of_it, pairs):
    one_part = over(all_of_it, (sum([number for number, thing in pairs]), 1))
    return [(thing, times(one_part, (number, 1))) for number, thing in pairs]


# What a row puts into a bowl in which so much lies: pairs (thing, amount), amounts above nought.
def put_by(row, lies):
    if row[0] == "take":
        return [(row[2], row[1])]
    if row[0] == "parts":
        return shares(row[1], row[2])
    if row[0] == "to":
        return [(row[2], times((row[1], 1), lies))]
    lacks = minus(row[1], lies)
    return [] if lacks == NOUGHT else [(row[2], lacks)]


# The puts of a recipe whose bowl is not brought to any amount yet: tuples (place, thing, amount).
def puts_as_written(rows):
    found = []
    lies = NOUGHT
    for place, row in enumerate(rows):
        pairs = put_by(row, lies)
        found.extend([(place, thing, many) for thing, many in pairs])
        lies = plus(lies, whole(pairs))
    return found
