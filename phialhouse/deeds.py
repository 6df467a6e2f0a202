"""Deeds: the five kinds of rows that are done to phials at a bench."""

from phialhouse.amounts import NOUGHT, ONE, is_amount, is_whole_number, less, minus, times
from phialhouse.bench import pair_in
from phialhouse.errors import Dry, Low, NoDeed, Spilt, Touch, Wet
from phialhouse.mixtures import is_ware, mixture, together, whole

# What stands behind the word of a row, by its word.
FORMS = {
    "draw": ("phial", "ware", "amount"),
    "fill": ("phial", "ware", "level"),
    "pour": ("phial", "phial", "part"),
    "empty": ("phial",),
    "rinse": ("phial",),
}


class Deed:
    def onto(self, bench, phials):
        return self.onto_at(bench, phials, 0)

    # The place is that of the row in its list: a refusal has to name it.
    def onto_at(self, bench, phials, place):
        raise NotImplementedError("each kind of deed tells this itself")

    def told(self):
        raise NotImplementedError("each kind of deed tells this itself")


class Draw(Deed):
    def __init__(self, phial, ware, amount):
        self.phial = phial
        self.ware = ware
        self.amount = amount

    def onto_at(self, bench, phials, place):
        return with_more(bench, phials, self.phial, ((self.ware, self.amount),), (self.ware,), place)

    def told(self):
        return ("draw", self.phial, self.ware, self.amount)


class Fill(Deed):
    def __init__(self, phial, ware, level):
        self.phial = phial
        self.ware = ware
        self.level = level

    def onto_at(self, bench, phials, place):
        lies = whole(phials[self.phial][0])
        if not less(lies, self.level):
            raise Low(place, self.phial)
        comes = ((self.ware, minus(self.level, lies)),)
        return with_more(bench, phials, self.phial, comes, (self.ware,), place)

    def told(self):
        return ("fill", self.phial, self.ware, self.level)


class Pour(Deed):
    def __init__(self, one, other, part):
        self.one = one
        self.other = other
        self.part = part

    def onto_at(self, bench, phials, place):
        holds = phials[self.one][0]
        names = phials[self.one][1]
        if holds == ():
            raise Dry(place, self.one)
        goes = [(ware, times(many, self.part)) for ware, many in holds]
        stays = [(ware, times(many, minus(ONE, self.part))) for ware, many in holds]
        behind = with_more(bench, phials, self.other, tuple(goes), names, place)
        return with_phial(behind, self.one, mixture(stays), names)

    def told(self):
        return ("pour", self.one, self.other, self.part)


class Empty(Deed):
    def __init__(self, phial):
        self.phial = phial

    def onto_at(self, bench, phials, place):
        return with_phial(phials, self.phial, (), phials[self.phial][1])

    def told(self):
        return ("empty", self.phial)


class Rinse(Deed):
    def __init__(self, phial):
        self.phial = phial

    def onto_at(self, bench, phials, place):
        if phials[self.phial][0] != ():
            raise Wet(place, self.phial)
        return with_phial(phials, self.phial, (), ())

    def told(self):
        return ("rinse", self.phial)


def with_phial(phials, phial, holds, names):
    behind = list(phials)
    behind[phial] = (holds, names)
    return behind


def with_more(bench, phials, phial, comes, names, place):
    holds = together(phials[phial][0], comes)
    much = whole(holds)
    room = bench[0][phial]
    if less(room, much):
        raise Spilt(place, phial, minus(much, room))
    names_behind = tuple(sorted(set(phials[phial][1] + names)))
    pair = pair_in(bench, names_behind)
    if pair is not None:
        raise Touch(place, phial, pair)
    return with_phial(phials, phial, holds, names_behind)


def deed_of(bench, row):
    return deed_at(bench, row, 0)


def deed_at(bench, row, place):
    if not is_row(bench, row):
        raise NoDeed(place)
    if row[0] == "draw":
        return Draw(row[1], row[2], row[3])
    if row[0] == "fill":
        return Fill(row[1], row[2], row[3])
    if row[0] == "pour":
        return Pour(row[1], row[2], row[3])
    return Empty(row[1]) if row[0] == "empty" else Rinse(row[1])


# A row may be anything at all, so each thing in it is looked at before it is asked anything.
def is_row(bench, row):
    if not isinstance(row, tuple) or len(row) == 0 or not isinstance(row[0], str):
        return False
    form = FORMS.get(row[0])
    if form is None or len(row) != len(form) + 1:
        return False
    if not all([is_of_kind(bench, kind, thing) for kind, thing in zip(form, row[1:])]):
        return False
    return row[0] != "pour" or row[1] != row[2]


def is_of_kind(bench, kind, thing):
    if kind == "phial":
        return is_whole_number(thing) and 0 <= thing < len(bench[0])
    if kind == "ware":
        return is_ware(thing)
    if not is_amount(thing):
        return False
    # A level of nought is an amount like others; it is refused as too low.
    if kind == "level":
        return True
    return thing != NOUGHT and (kind == "amount" or not less(ONE, thing))
