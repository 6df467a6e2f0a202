"""Mixtures: tuples of pairs (ware, amount), sorted by wares, each ware once, amounts above nought."""

from phialhouse.amounts import NOUGHT, ONE, less, minus, over, plus, times
from phialhouse.errors import Nothing, Short

LETTERS = "abcdefghijklmnopqrstuvwxyz"
MOST_LETTERS = 8


def is_ware(thing):
    if not isinstance(thing, str):
        return False
    return 1 <= len(thing) <= MOST_LETTERS and all([sign in LETTERS for sign in thing])


def mixture(pairs):
    sums = {}
    for ware, part in pairs:
        sums[ware] = plus(sums.get(ware, NOUGHT), part)
    return tuple([(ware, sums[ware]) for ware in sorted(sums) if sums[ware] != NOUGHT])


def whole(one):
    found = NOUGHT
    for ware, part in one:
        found = plus(found, part)
    return found


def of_ware(one, ware):
    for there, part in one:
        if there == ware:
            return part
    return NOUGHT


def together(one, other):
    return mixture(list(one) + list(other))


def brought(one, asked):
    if asked == NOUGHT:
        return ()
    if one == ():
        raise Nothing("the empty mixture is brought to nought alone")
    share = over(asked, whole(one))
    return tuple([(ware, times(part, share)) for ware, part in one])


def taken(one, asked):
    lies = whole(one)
    if less(lies, asked):
        raise Short(lies)
    out = brought(one, asked)
    left = [(ware, minus(part, of_ware(out, ware))) for ware, part in one]
    return (out, mixture(left))


def alike(one, other):
    if one == () or other == ():
        return one == other
    return brought(one, ONE) == brought(other, ONE)
