"""Rows gathered and shortened: neighbouring draws made one, and what the goal does not need left out."""

from phialhouse.amounts import plus
from phialhouse.thinning import places_needed
from phialhouse.walking import walked


def gathered(bench, phials, rows):
    # Rows that do not go through are refused by the walk; what it tells is not asked for.
    walked(bench, phials, rows)
    return gathered_rows(rows)


# Of each phial the place of the last row that names it is kept: a draw is a neighbour of that row or of none.
def gathered_rows(rows):
    found = []
    latest = {}
    for row in rows:
        ahead = latest.get(row[1])
        if row[0] == "draw" and ahead is not None and found[ahead][:3] == row[:3]:
            found[ahead] = row[:3] + (plus(found[ahead][3], row[3]),)
        else:
            for phial in phials_named(row):
                latest[phial] = len(found)
            found.append(row)
    return found


def phials_named(row):
    return [row[1], row[2]] if row[0] == "pour" else [row[1]]


def shortened(bench, phials, rows, goal):
    wanted = walked(bench, phials, rows)[goal]
    before = None
    short = list(rows)
    while short != before:
        before = short
        full = gathered_rows(before)
        places = places_needed(bench, phials, full, goal, wanted)
        short = gathered_rows([full[place] for place in places])
    return short
