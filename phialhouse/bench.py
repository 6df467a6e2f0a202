"""The bench: a tuple (rooms, apart), and phials, each a tuple (mixture, names), that fit it."""

from phialhouse.amounts import NOUGHT, is_amount, less
from phialhouse.mixtures import is_ware, whole

MOST_ROOMS = 16
MOST_PAIRS = 30


def is_bench(thing):
    if not isinstance(thing, tuple) or len(thing) != 2:
        return False
    return are_rooms(thing[0]) and are_pairs(thing[1])


def are_rooms(thing):
    if not isinstance(thing, tuple) or not 1 <= len(thing) <= MOST_ROOMS:
        return False
    return all([is_amount(room) and room != NOUGHT for room in thing])


def are_pairs(thing):
    if not isinstance(thing, tuple) or len(thing) > MOST_PAIRS:
        return False
    return all([is_pair(pair) for pair in thing]) and is_rising(thing)


def is_rising(some):
    return all([some[place] < some[place + 1] for place in range(len(some) - 1)])


def is_pair(thing):
    if not isinstance(thing, tuple) or len(thing) != 2:
        return False
    return is_ware(thing[0]) and is_ware(thing[1]) and is_rising(thing)


def clean(bench):
    return [((), ()) for room in bench[0]]


def fit(bench, phials):
    if len(phials) != len(bench[0]):
        return False
    for room, phial in zip(bench[0], phials):
        if less(room, whole(phial[0])) or pair_in(bench, phial[1]) is not None:
            return False
    return True


def pair_in(bench, names):
    for pair in bench[1]:
        if pair[0] in names and pair[1] in names:
            return pair
    return None
