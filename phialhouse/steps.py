"""Steps by which a tree is made part by part."""

from phialhouse.needs import need_of


def steps_of(tree):
    return steps_within(tree, ())


# The child of the greatest need is made first, while its recipe has no phial yet; so that one costs nothing beside
# the child's own need. All others are made while the recipe has one phial, and wares are put in at the end.
def steps_within(part, path):
    steps = []
    for place in recipes_by_need(part[3]):
        below = path + (place,)
        word = "keep" if steps == [] else "join"
        steps.extend(steps_within(part[3][place], below))
        steps.append((word, below))
    for place, child in enumerate(part[3]):
        if child[0] == "ware":
            steps.append(("put", path + (place,)))
    return steps


def recipes_by_need(children):
    places = [place for place, child in enumerate(children) if child[0] == "recipe"]
    return sorted(places, key=lambda place: need_of(children[place]), reverse=True)


def width_of(tree, steps):
    having = {}
    width = 0
    for word, path in steps:
        having[path[:-1]] = True
        if word != "put":
            having.pop(path)
        width = max(width, len(having))
    return width
