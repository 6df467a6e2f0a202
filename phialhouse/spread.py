"""A spread from a first node along steps, nearest nodes first, each node once."""

from phialhouse.errors import TooMany


def spread(first, steps, sought, deepest=60, most=2000):
    rows = [(first, 0, None, None)]
    if sought(first):
        return (rows, 0)
    laid = {first: True}
    place = 0
    # Rows lie by their depth, so behind the first one that is too deep all are.
    while place < len(rows) and rows[place][1] < deepest:
        here = rows[place]
        for deed, node in steps(here[0]):
            if node not in laid:
                if len(rows) >= most:
                    raise TooMany(most)
                laid[node] = True
                rows.append((node, here[1] + 1, place, deed))
                if sought(node):
                    return (rows, len(rows) - 1)
        place += 1
    return (rows, None)


def way_to(rows, place):
    way = []
    row = rows[place]
    while row[2] is not None:
        way.append(row[3])
        row = rows[row[2]]
    way.reverse()
    return way
