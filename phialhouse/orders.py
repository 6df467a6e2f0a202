"""Orders with first and last days: looked at, and what a plan leaves of them or a paper asks."""

from phialhouse.amounts import is_whole_number
from phialhouse.errors import NoOrder
from phialhouse.mixtures import is_ware

MOST_ORDERS = 40
MOST_TURNS = 50


def look_at(orders, turns):
    names = {}
    for place, order in enumerate(orders):
        if place >= MOST_ORDERS or not is_order(order, len(turns)) or order[0] in names:
            raise NoOrder(place)
        names[order[0]] = True
    return list(orders)


def is_order(thing, days):
    if not isinstance(thing, tuple) or len(thing) != 4 or not is_ware(thing[0]):
        return False
    if not all([is_whole_number(number) for number in thing[1:]]):
        return False
    return 0 <= thing[1] <= thing[2] < days and 1 <= thing[3] <= MOST_TURNS


def left_by(orders, plan):
    found = []
    for name, first, last, many in orders:
        lacking = many - sum([names.count(name) for names in plan])
        if lacking > 0:
            found.append((name, lacking))
    return sorted(found)


def orders_within(orders, low, high):
    return [order for order in orders if low <= order[1] and order[2] <= high]


def price(orders, turns, paper):
    found = 0
    for low, high in paper:
        needed = sum([order[3] for order in orders_within(orders, low, high)])
        found += needed - sum(turns[low:high + 1])
    return found
