"""Samples for the tests: books, amounts and what the document says of them, reckoned anew with fractions."""

from fractions import Fraction

LETTERS = "abcdefghijklmnopqrstuvwxyz"


def as_amount(one):
    return (one.numerator, one.denominator)


def as_fraction(one):
    return Fraction(one[0], one[1])


def as_mixture(parts):
    return tuple([(ware, as_amount(parts[ware])) for ware in sorted(parts) if parts[ware] > 0])


def shown(one):
    return str(Fraction(one[0], one[1]))


def written_row(row):
    if row[0] == "take":
        return f"take {shown(row[1])} of {row[2]}"
    if row[0] == "fill":
        return f"fill {shown(row[1])} with {row[2]}"
    if row[0] == "to":
        return f"{row[1]} to one of {row[2]}"
    pairs = ", ".join([f"{number} {thing}" for number, thing in row[2]])
    return f"parts {shown(row[1])}: {pairs}"


def written(book):
    lines = [f"ware {name}" for name in book[0]]
    lines += [f"apart {one} {other}" for one, other in book[1]]
    lines += [f"recipe {name}: " + "; ".join([written_row(row) for row in rows]) for name, rows in book[2]]
    return "\n".join(lines)


def some_name(source):
    words = ["a", "to", "of", "one", "take", "fill", "with", "parts", "ware", "apart", "recipe", "zzzzzzzz"]
    made = "".join([source.choice(LETTERS) for number in range(source.randrange(1, 9))])
    return source.choice([made, source.choice(words)])


def some_amount(source):
    most = 10 ** source.randrange(1, 10)
    one = Fraction(source.randrange(1, most), source.randrange(1, most))
    return (one.numerator, one.denominator)


def some_row(source, kinds):
    kind = source.choice(kinds)
    if kind == "to":
        return ("to", source.randrange(1, 1001), some_name(source))
    if kind == "parts":
        pairs = [(source.randrange(1, 1001), some_name(source)) for number in range(source.randrange(1, 5))]
        return ("parts", some_amount(source), tuple(pairs))
    return (kind, some_amount(source), some_name(source))


def some_recipe(source):
    rows = [some_row(source, ["take", "parts", "fill"])]
    rows += [some_row(source, ["take", "parts", "fill", "to"]) for number in range(source.randrange(0, 6))]
    return (some_name(source), tuple(rows))


def some_book(source):
    wares = [some_name(source) for number in range(source.randrange(1, 21))]
    apart = [(some_name(source), some_name(source)) for number in range(source.randrange(0, 31))]
    recipes = [some_recipe(source) for number in range(source.randrange(0, 13))]
    return (tuple(wares), tuple(apart), tuple(recipes))


def numbered(number):
    return "n" + LETTERS[number // 26] + LETTERS[number % 26]


def things_in_rows(rows):
    found = []
    for row in rows:
        found += [thing for number, thing in row[2]] if row[0] == "parts" else [row[2]]
    return found


def all_wares(book, thing, known=None):
    known = {} if known is None else known
    if thing in book[0]:
        return {thing}
    if thing not in known:
        parts = things_in_rows(dict(book[2])[thing])
        known[thing] = set().union(*[all_wares(book, part, known) for part in parts])
    return known[thing]


def plain_puts(rows):
    """What rows put into the bowl, as written: tuples (place, thing, fraction)."""
    found = []
    lies = Fraction(0)
    for place, row in enumerate(rows):
        if row[0] == "take":
            parts = [(row[2], as_fraction(row[1]))]
        elif row[0] == "parts":
            numbers = sum([number for number, thing in row[2]])
            parts = [(thing, as_fraction(row[1]) * number / numbers) for number, thing in row[2]]
        elif row[0] == "to":
            parts = [(row[2], row[1] * lies)]
        else:
            parts = [(row[2], as_fraction(row[1]) - lies)]
        for thing, many in parts:
            lies += many
            if many:
                found.append((place, thing, many))
    return found


def plain_bowl(book, name, known=None):
    """A recipe's bowl by 3.1, from the bottom up: a dict from wares to fractions."""
    known = {} if known is None else known
    if name not in known:
        bowl = {}
        for place, thing, many in plain_puts(dict(book[2])[name]):
            for ware, part in plain_made(book, thing, many, known).items():
                bowl[ware] = bowl.get(ware, Fraction(0)) + part
        known[name] = bowl
    return known[name]


def plain_made(book, thing, asked, known=None):
    if thing in book[0]:
        return {thing: asked}
    bowl = plain_bowl(book, thing, known)
    share = asked / sum(bowl.values())
    return {ware: part * share for ware, part in bowl.items()}


def filled_row(source, things, lies):
    """A row that a book let by may have, where so much lies in the bowl."""
    kind = source.choice(["take", "parts", "fill"] if lies == 0 else ["take", "parts", "fill", "fill", "to"])
    if kind == "to":
        return ("to", source.choice([1, 2, 3, 1000]), source.choice(things))
    if kind == "parts":
        pairs = [(source.choice([1, 1, 2, 3, 7, 1000]), source.choice(things)) for number in range(source.randrange(1, 5))]
        return ("parts", some_amount(source), tuple(pairs))
    if kind == "take":
        return ("take", some_amount(source), source.choice(things))
    many = lies + source.choice([0, 0, Fraction(1, 2), 1, 5])
    if many == 0 or many.numerator > 999999999 or many.denominator > 999999999:
        return ("take", some_amount(source), source.choice(things))
    return ("fill", as_amount(many), source.choice(things))


def some_let_by(source, most_recipes=12, most_rows=6):
    """A book that is let by, its recipes told in any order."""
    names = [numbered(number) for number in range(32)]
    source.shuffle(names)
    wares = names[:source.randrange(1, 21)]
    recipes = []
    things = list(wares)
    for name in names[20:20 + source.randrange(1, most_recipes + 1)]:
        rows = []
        for number in range(source.randrange(1, most_rows + 1)):
            lies = sum([many for place, thing, many in plain_puts(rows)], Fraction(0))
            rows.append(filled_row(source, things[-6:] + source.sample(wares, 1), lies))
        recipes.append((name, tuple(rows)))
        things.append(name)
    source.shuffle(recipes)
    book = (tuple(wares), (), tuple(recipes))
    mixed = [all_wares(book, name) for name, rows in recipes]
    pairs = [(source.choice(wares), source.choice(wares)) for number in range(30)]
    apart = [(one, other) for one, other in pairs
             if one != other and not [wares for wares in mixed if one in wares and other in wares]]
    return (book[0], tuple(apart), book[2])


def frozen(thing):
    """A copy of anything told, to compare with what it is later."""
    if isinstance(thing, list):
        return ["list"] + [frozen(part) for part in thing]
    if isinstance(thing, tuple):
        return tuple([frozen(part) for part in thing])
    if isinstance(thing, dict):
        return {key: frozen(thing[key]) for key in thing}
    return thing


def spoil(thing):
    """Changes every list and dict within a told thing, as an asker may."""
    if isinstance(thing, (list, tuple)):
        for part in thing:
            spoil(part)
    if isinstance(thing, list):
        thing.append("spoilt")
        thing.reverse()
    if isinstance(thing, dict):
        for part in list(thing.values()):
            spoil(part)
        thing["spoilt"] = "spoilt"


BENCH_WARES = ["acid", "lye", "oil", "salt", "water", "wax"]
ANYTHING = [None, True, False, 0, 1, -1, 10 ** 30, 1.5, 2j, "", "a", "water", "Water", "12", b"water", (), (1,), (1, 1),
            (0, 1), (1, 0), (2, 4), ("a", "b"), [], [1, 1], ["a"], {}, {"a": 1}, {1, 2}, frozenset(), range(3), int, object(),
            (("a", (1, 1)),), [[]], ((),), lambda: 1]


def some_bench(source, most_rooms=5, most_pairs=4):
    rooms = [as_amount(Fraction(source.randrange(1, 40), source.randrange(1, 7)))
             for number in range(source.randrange(1, most_rooms + 1))]
    pairs = {tuple(sorted(source.sample(BENCH_WARES, 2))) for number in range(source.randrange(0, most_pairs + 1))}
    return (tuple(rooms), tuple(sorted(pairs)))


def is_apart(bench, names):
    return [pair for pair in bench[1] if set(pair) <= set(names)]


def some_phials(source, bench):
    """Phials that fit the bench, some of them clean, some full to the brim."""
    found = []
    for room in bench[0]:
        names = source.sample(BENCH_WARES, source.randrange(0, 4))
        while is_apart(bench, names):
            names.pop()
        held = names[:source.randrange(0, len(names) + 1)]
        parts = {ware: Fraction(source.randrange(1, 9), source.randrange(1, 9)) for ware in held}
        most = as_fraction(room) * source.choice([1, 1, Fraction(1, 2), Fraction(1, 7)])
        share = most / sum(parts.values()) if parts else 0
        found.append((as_mixture({ware: part * share for ware, part in parts.items()}), tuple(sorted(names))))
    return found


def some_deed(source, bench, phials):
    """A row that is in most cases formed as a deed, though it need not go through."""
    count = len(bench[0])
    phial = source.randrange(count)
    kind = source.choice(["draw", "draw", "draw", "fill", "pour", "pour", "pour", "empty", "rinse"])
    ware = source.choice(BENCH_WARES)
    held = sum([as_fraction(many) for ware, many in phials[phial][0]])
    room = as_fraction(bench[0][phial])
    if kind == "draw":
        free = room - held
        many = source.choice([free, free / 2, free / 3, free / 5, Fraction(1, 3), Fraction(2), free + 1])
        return ("draw", phial, ware, as_amount(many or Fraction(1)))
    if kind == "fill":
        return ("fill", phial, ware, as_amount(source.choice([room, (room + held) / 2, held, room + 1])))
    if kind == "pour":
        other = source.choice([one for one in range(count) if one != phial] or [phial])
        return ("pour", phial, other, source.choice([(1, 1), (1, 1), (1, 2), (1, 3), (2, 5)]))
    return (kind, phial)


def plain_done(bench, phials, row):
    """A row, formed as a deed, done by 4.3 to 4.5: ("ok", phials), or the refusal's name and its fields but the place."""
    mixed = [{ware: as_fraction(many) for ware, many in holds} for holds, names in phials]
    names = [set(clings) for holds, clings in phials]
    word, phial = row[0], row[1]
    goal, comes = phial, {}
    if word == "pour":
        if not mixed[phial]:
            return ("Dry", phial)
        goal, part = row[2], as_fraction(row[3])
        comes = {ware: many * part for ware, many in mixed[phial].items()}
        mixed[phial] = {ware: many * (1 - part) for ware, many in mixed[phial].items()}
        names[goal] |= names[phial]
    if word == "rinse":
        if mixed[phial]:
            return ("Wet", phial)
        names[phial] = set()
    if word == "empty":
        mixed[phial] = {}
    if word in ("draw", "fill"):
        lies = sum(mixed[phial].values())
        if word == "fill" and as_fraction(row[3]) <= lies:
            return ("Low", phial)
        comes = {row[2]: as_fraction(row[3]) - (lies if word == "fill" else 0)}
        names[phial].add(row[2])
    for ware, many in comes.items():
        mixed[goal][ware] = mixed[goal].get(ware, Fraction(0)) + many
    much = sum(mixed[goal].values()) - as_fraction(bench[0][goal])
    if much > 0:
        return ("Spilt", goal, as_amount(much))
    apart = is_apart(bench, names[goal])
    if apart:
        return ("Touch", goal, apart[0])
    return ("ok", [(as_mixture(parts), tuple(sorted(clings))) for parts, clings in zip(mixed, names)])


def rows_that_go(source, bench, phials, many):
    """Rows that go through, and the phials behind them."""
    rows = []
    there = list(phials)
    for number in range(many):
        row = some_deed(source, bench, there)
        if row[0] == "pour" and row[1] == row[2]:
            continue
        told = plain_done(bench, there, row)
        if told[0] == "ok":
            rows.append(row)
            there = told[1]
    return (rows, there)


def ware_part(source, wares):
    return ("ware", source.choice(wares), as_amount(Fraction(source.randrange(1, 30), source.randrange(1, 9))))


def recipe_part(name, children):
    whole = sum([as_fraction(child[2]) for child in children])
    return ("recipe", name, as_amount(whole), tuple(children))


def some_tree(source, most_parts=120, most_depth=40, wares=None):
    """A tree by 5.1: a recipe at its top, parts of one name not alike, recipes within ones of their own name."""
    wares = wares or BENCH_WARES
    left = [source.randrange(1, most_parts)]

    def grow(depth):
        children = []
        for number in range(source.choice([1, 1, 2, 2, 3, 5])):
            if children and left[0] <= 0:
                break
            left[0] -= 1
            if depth < most_depth and left[0] > 0 and source.random() < 0.65:
                children.append(grow(depth + 1))
            else:
                children.append(ware_part(source, wares))
        return recipe_part(source.choice(["rx", "ry", "rz"]), children)
    return grow(1)


def all_paths(tree, path=()):
    """The paths of all parts, with the part: a dict."""
    found = {path: tree}
    if tree[0] == "recipe":
        for place, child in enumerate(tree[3]):
            found.update(all_paths(child, path + (place,)))
    return found


def deep_tree(depth):
    tree = recipe_part("rx", [("ware", "salt", (1, 1))])
    for number in range(depth - 1):
        tree = recipe_part("rx", [("ware", "oil", (1, 2)), tree])
    return tree


def full_tree(need):
    """A tree of two children each, whose need is just this."""
    if need == 1:
        return recipe_part("ry", [("ware", "salt", (1, 1))])
    return recipe_part("ry", [full_tree(need - 1), full_tree(need - 1)])


def plain_need(tree):
    if tree[0] == "ware":
        return 0
    needs = sorted([0] + [plain_need(child) for child in tree[3]])
    return max(needs[-1], needs[-2] + 1)
