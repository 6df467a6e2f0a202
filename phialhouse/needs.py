"""Needs of trees: how many phials are needed to make one part by part, and papers that fewer will not do."""


def part_at(tree, path):
    part = tree
    for place in path:
        part = part[3][place]
    return part


def need_of(tree):
    if tree[0] == "ware":
        return 0
    needs = sorted(needs_of_children(tree), reverse=True)
    second = needs[1] if len(needs) > 1 else 0
    return max(needs[0], second + 1)


def needs_of_children(tree):
    return [need_of(part) for part in tree[3]]


def paper_of(tree):
    return paper_beneath(tree, ())


# A need above 1 comes from a child that has it already, or from two children that both have one less.
def paper_beneath(part, path):
    need = need_of(part)
    if need == 1:
        return (path, None)
    needs = needs_of_children(part)
    if need in needs:
        return paper_of_child(part, path, needs.index(need))
    one = needs.index(need - 1)
    other = needs.index(need - 1, one + 1)
    return (path, (paper_of_child(part, path, one), paper_of_child(part, path, other)))


def paper_of_child(part, path, place):
    return paper_beneath(part[3][place], path + (place,))
