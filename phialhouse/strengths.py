"""Strengths made by told measures: mixings (full, strong) of a strong ware and a thin one."""

from phialhouse.amounts import amount, over, plus, times
from phialhouse.spread import spread, way_to

EMPTY_MIXING = (0, (0, 1))


def steps_from(measures, room, mixing):
    full = mixing[0]
    strong = mixing[1]
    fitting = [measure for measure in measures if full + measure <= room]
    found = [(("strong", measure), (full + measure, plus(strong, (measure, 1)))) for measure in fitting]
    found.extend([(("thin", measure), (full + measure, strong)) for measure in fitting])
    for measure in measures:
        if measure <= full:
            left = full - measure
            found.append((("off", measure), (left, times(strong, amount(left, full)))))
    return found


def strength(mixing):
    return over(mixing[1], (mixing[0], 1))


def asked_for(measures, room, one, least=1, deepest=6, most=2000):
    def steps(mixing):
        return steps_from(measures, room, mixing)

    def sought(mixing):
        return mixing[0] >= least and strength(mixing) == one

    told = spread(EMPTY_MIXING, steps, sought, deepest, most)
    rows = told[0]
    if told[1] is not None:
        return ("made", way_to(rows, told[1]))
    return ("none", strengths_of([row[0] for row in rows if row[0][0] >= least]))


def strengths_of(mixings):
    found = {}
    for mixing in mixings:
        found[strength(mixing)] = True
    return rising(list(found))


# Two unlike fractions whose bottoms are at most b lie no closer than 1 to b * b. So multiplied by that and rounded
# down they are unlike whole numbers, which stand as the fractions do.
def rising(fractions):
    greatest = max([bottom for top, bottom in fractions], default=1)
    scale = greatest * greatest
    return sorted(fractions, key=lambda one: one[0] * scale // one[1])
