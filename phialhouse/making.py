"""Rows at a bench made of the steps of a tree."""

from phialhouse.amounts import ONE, less
from phialhouse.bench import pair_in
from phialhouse.errors import Few, Touch
from phialhouse.needs import need_of, part_at
from phialhouse.steps import steps_of
from phialhouse.trees import leaves


def rows_made(bench, phials, tree):
    pair = pair_in(bench, [ware for ware, many in leaves(tree)])
    if pair is not None:
        raise Touch(-1, -1, pair)
    ready = ready_phials(bench, phials, tree[2])
    need = need_of(tree)
    if len(ready) < need:
        raise Few(need, len(ready))
    work = Work(tree, ready, [phial for phial in ready if phials[phial][1] != ()])
    for word, path in steps_of(tree):
        work.take_step(word, path)
    return (work.rows, work.phial_of[()], sorted(work.stands))


def ready_phials(bench, phials, much):
    return [phial for phial, room in enumerate(bench[0]) if phials[phial][0] == () and not less(room, much)]


class Work:
    def __init__(self, tree, ready, unclean):
        self.tree = tree
        self.rows = []
        self.stands = []
        self.free = list(ready)
        self.unclean = list(unclean)
        self.phial_of = {}
        self.arrived = {}

    def take_step(self, word, path):
        above = path[:-1]
        if word == "put":
            part = part_at(self.tree, path)
            self.rows.append(("draw", self.own_phial(above), part[1], part[2]))
        elif word == "keep":
            self.phial_of[above] = self.phial_of.pop(path)
        else:
            phial = self.phial_of.pop(path)
            self.rows.append(("pour", phial, self.phial_of[above], ONE))
            self.free.insert(0, phial)
        self.note_arrival(above)

    # What clings at first is rinsed off. Later on only wares of the tree cling to a phial, which may all meet and
    # will all be in the told one, so it is used again as it is.
    def own_phial(self, path):
        if path not in self.phial_of:
            phial = self.free.pop(0)
            if phial in self.unclean:
                self.unclean.remove(phial)
                self.rows.append(("rinse", phial))
            self.phial_of[path] = phial
        return self.phial_of[path]

    def note_arrival(self, path):
        self.arrived[path] = self.arrived.get(path, 0) + 1
        if self.arrived[path] == len(part_at(self.tree, path)[3]):
            self.stands.append((path, len(self.rows) - 1, self.phial_of[path]))
