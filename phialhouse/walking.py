"""Rows done one by one to the phials of a bench."""

from phialhouse.deeds import deed_at
from phialhouse.errors import PhialError
from phialhouse.mixtures import together


def done(bench, phials, row):
    return done_at(bench, phials, row, 0)


def done_at(bench, phials, row, place):
    return deed_at(bench, row, place).onto_at(bench, phials, place)


def walked(bench, phials, rows):
    behind = list(phials)
    for place, row in enumerate(rows):
        behind = done_at(bench, behind, row, place)
    return behind


def spoilt(bench, phials, rows):
    away = ()
    there = list(phials)
    for place, row in enumerate(rows):
        behind = done_at(bench, there, row, place)
        if row[0] == "empty":
            away = together(away, there[row[1]][0])
        there = behind
    return away


def first_refused(bench, phials, rows):
    behind = list(phials)
    for place, row in enumerate(rows):
        try:
            behind = done(bench, behind, row)
        except PhialError:
            return place
    return None
