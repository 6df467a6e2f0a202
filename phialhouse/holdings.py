"""Holdings: dicts from lots' names to fractions of spoons above 0."""

from phialhouse.amounts import NOUGHT, minus, over, plus, times


def total_of(holding):
    found = NOUGHT
    for lot in holding:
        found = plus(found, holding[lot])
    return found


def shared(holding, many):
    share = over((many, 1), total_of(holding))
    goes = {}
    stays = {}
    for lot in holding:
        goes[lot] = times(holding[lot], share)
        left = minus(holding[lot], goes[lot])
        if left != NOUGHT:
            stays[lot] = left
    return (goes, stays)


def put_together(one, other):
    found = dict(one)
    for lot in other:
        found[lot] = plus(found.get(lot, NOUGHT), other[lot])
    return found
