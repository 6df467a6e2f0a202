"""Samples for the tests: books, amounts and what the document says of them, reckoned anew with fractions."""

from fractions import Fraction

LETTERS = "abcdefghijklmnopqrstuvwxyz"


def as_amount(one):
    return (one.numerator, one.denominator)


def as_fraction(one):
    return Fraction(one[0], one[1])


def as_mixture(parts):
    return tuple([(ware, as_amount(parts[ware])) for ware in sorted(parts) if parts[ware] > 0])


def shown(one):
    return str(Fraction(one[0], one[1]))


def written_row(row):
    if row[0] == "take":
        return f"take {shown(row[1])} of {row[2]}"
    if row[0] == "fill":
        return f"fill {shown(row[1])} with {row[2]}"
    if row[0] == "to":
        return f"{row[1]} to one of {row[2]}"
    pairs = ", ".join([f"{number} {thing}" for number, thing in row[2]])
    return f"parts {shown(row[1])}: {pairs}"


def written(book):
    lines = [f"ware {name}" for name in book[0]]
    lines += [f"apart {one} {other}" for one, other in book[1]]
    lines += [f"recipe {name}: " + "; ".join([written_row(row) for row in rows]) for name, rows in book[2]]
    return "\n".join(lines)


def some_name(source):
    words = ["a", "to", "of", "one", "take", "fill", "with", "parts", "ware", "apart", "recipe", "zzzzzzzz"]
    made = "".join([source.choice(LETTERS) for number in range(source.randrange(1, 9))])
    return source.choice([made, source.choice(words)])


def some_amount(source):
    most = 10 ** source.randrange(1, 10)
    one = Fraction(source.randrange(1, most), source.randrange(1, most))
    return (one.numerator, one.denominator)


def some_row(source, kinds):
    kind = source.choice(kinds)
    if kind == "to":
        return ("to", source.randrange(1, 1001), some_name(source))
    if kind == "parts":
        pairs = [(source.randrange(1, 1001), some_name(source)) for number in range(source.randrange(1, 5))]
        return ("parts", some_amount(source), tuple(pairs))
    return (kind, some_amount(source), some_name(source))


def some_recipe(source):
    rows = [some_row(source, ["take", "parts", "fill"])]
    rows += [some_row(source, ["take", "parts", "fill", "to"]) for number in range(source.randrange(0, 6))]
    return (some_name(source), tuple(rows))


def some_book(source):
    wares = [some_name(source) for number in range(source.randrange(1, 21))]
    apart = [(some_name(source), some_name(source)) for number in range(source.randrange(0, 31))]
    recipes = [some_recipe(source) for number in range(source.randrange(0, 13))]
    return (tuple(wares), tuple(apart), tuple(recipes))


def numbered(number):
    return "n" + LETTERS[number // 26] + LETTERS[number % 26]


def things_in_rows(rows):
    found = []
    for row in rows:
        found += [thing for number, thing in row[2]] if row[0] == "parts" else [row[2]]
    return found


def all_wares(book, thing, known=None):
    known = {} if known is None else known
    if thing in book[0]:
        return {thing}
    if thing not in known:
        parts = things_in_rows(dict(book[2])[thing])
        known[thing] = set().union(*[all_wares(book, part, known) for part in parts])
    return known[thing]


def plain_puts(rows):
    """What rows put into the bowl, as written: tuples (place, thing, fraction)."""
    found = []
    lies = Fraction(0)
    for place, row in enumerate(rows):
        if row[0] == "take":
            parts = [(row[2], as_fraction(row[1]))]
        elif row[0] == "parts":
            numbers = sum([number for number, thing in row[2]])
            parts = [(thing, as_fraction(row[1]) * number / numbers) for number, thing in row[2]]
        elif row[0] == "to":
            parts = [(row[2], row[1] * lies)]
        else:
            parts = [(row[2], as_fraction(row[1]) - lies)]
        for thing, many in parts:
            lies += many
            if many:
                found.append((place, thing, many))
    return found


def plain_bowl(book, name, known=None):
    """A recipe's bowl by 3.1, from the bottom up: a dict from wares to fractions."""
    known = {} if known is None else known
    if name not in known:
        bowl = {}
        for place, thing, many in plain_puts(dict(book[2])[name]):
            for ware, part in plain_made(book, thing, many, known).items():
                bowl[ware] = bowl.get(ware, Fraction(0)) + part
        known[name] = bowl
    return known[name]


def plain_made(book, thing, asked, known=None):
    if thing in book[0]:
        return {thing: asked}
    bowl = plain_bowl(book, thing, known)
    share = asked / sum(bowl.values())
    return {ware: part * share for ware, part in bowl.items()}


def filled_row(source, things, lies):
    """A row that a book let by may have, where so much lies in the bowl."""
    kind = source.choice(["take", "parts", "fill"] if lies == 0 else ["take", "parts", "fill", "fill", "to"])
    if kind == "to":
        return ("to", source.choice([1, 2, 3, 1000]), source.choice(things))
    if kind == "parts":
        pairs = [(source.choice([1, 1, 2, 3, 7, 1000]), source.choice(things)) for number in range(source.randrange(1, 5))]
        return ("parts", some_amount(source), tuple(pairs))
    if kind == "take":
        return ("take", some_amount(source), source.choice(things))
    many = lies + source.choice([0, 0, Fraction(1, 2), 1, 5])
    if many == 0 or many.numerator > 999999999 or many.denominator > 999999999:
        return ("take", some_amount(source), source.choice(things))
    return ("fill", as_amount(many), source.choice(things))


def some_let_by(source, most_recipes=12, most_rows=6):
    """A book that is let by, its recipes told in any order."""
    names = [numbered(number) for number in range(32)]
    source.shuffle(names)
    wares = names[:source.randrange(1, 21)]
    recipes = []
    things = list(wares)
    for name in names[20:20 + source.randrange(1, most_recipes + 1)]:
        rows = []
        for number in range(source.randrange(1, most_rows + 1)):
            lies = sum([many for place, thing, many in plain_puts(rows)], Fraction(0))
            rows.append(filled_row(source, things[-6:] + source.sample(wares, 1), lies))
        recipes.append((name, tuple(rows)))
        things.append(name)
    source.shuffle(recipes)
    book = (tuple(wares), (), tuple(recipes))
    mixed = [all_wares(book, name) for name, rows in recipes]
    pairs = [(source.choice(wares), source.choice(wares)) for number in range(30)]
    apart = [(one, other) for one, other in pairs
             if one != other and not [wares for wares in mixed if one in wares and other in wares]]
    return (book[0], tuple(apart), book[2])


def frozen(thing):
    """A copy of anything told, to compare with what it is later."""
    if isinstance(thing, list):
        return ["list"] + [frozen(part) for part in thing]
    if isinstance(thing, tuple):
        return tuple([frozen(part) for part in thing])
    if isinstance(thing, dict):
        return {key: frozen(thing[key]) for key in thing}
    return thing


def spoil(thing):
    """Changes every list and dict within a told thing, as an asker may."""
    if isinstance(thing, (list, tuple)):
        for part in thing:
            spoil(part)
    if isinstance(thing, list):
        thing.append("spoilt")
        thing.reverse()
    if isinstance(thing, dict):
        for part in list(thing.values()):
            spoil(part)
        thing["spoilt"] = "spoilt"
