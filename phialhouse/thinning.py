"""Rows thinned: those left out without which the others serve the goal as well."""

from phialhouse.errors import PhialError
from phialhouse.walking import walked


def serves(bench, phials, rows, other, goal):
    return leaves_as(bench, phials, other, goal, walked(bench, phials, rows)[goal])


# Wanted is what the goal is by the rows that were given: the same mixture, and no names beside these.
def leaves_as(bench, phials, rows, goal, wanted):
    try:
        behind = walked(bench, phials, rows)
    except PhialError:
        return False
    return behind[goal][0] == wanted[0] and all([name in wanted[1] for name in behind[goal][1]])


def thinned(bench, phials, rows, goal):
    places = places_needed(bench, phials, rows, goal, walked(bench, phials, rows)[goal])
    return ([rows[place] for place in places], places)


# A row left out may make one ahead of it or behind it idle, so all are tried till none of them went any more.
def places_needed(bench, phials, rows, goal, wanted):
    places = list(range(len(rows)))
    before = []
    while places != before:
        before = places
        for place in reversed(before):
            others = [one for one in places if one != place]
            if leaves_as(bench, phials, [rows[one] for one in others], goal, wanted):
                places = others
    return places
