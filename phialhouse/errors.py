"""All refusals. Those with fields are made of them, in the told order, the others of a text."""


# A refusal may be kept for long: what is later done to a list it was made of must not show in it.
def own_copy(thing):
    if isinstance(thing, list):
        return [own_copy(part) for part in thing]
    if isinstance(thing, tuple):
        return tuple([own_copy(part) for part in thing])
    return thing


class PhialError(ValueError):
    pass


# Stage 1: amounts and mixtures

class NoAmount(PhialError):
    pass


class Nothing(PhialError):
    pass


class NoText(PhialError):
    def __init__(self, row):
        PhialError.__init__(self, f"this is not written as it ought to be (row: {row})")
        self.row = row


class Short(PhialError):
    def __init__(self, lies):
        PhialError.__init__(self, "more is asked than lies there")
        self.lies = lies


# Stage 2: books of recipes

class Twice(PhialError):
    def __init__(self, name):
        PhialError.__init__(self, f"the name {name} is told twice")
        self.name = name


class NoName(PhialError):
    def __init__(self, name, recipe):
        PhialError.__init__(self, f"the name {name} is not told (recipe: {recipe})")
        self.name = name
        self.recipe = recipe


class NoPair(PhialError):
    def __init__(self, name):
        PhialError.__init__(self, f"the ware {name} is paired with itself")
        self.name = name


class Ring(PhialError):
    def __init__(self, ring):
        PhialError.__init__(self, "recipes stand in a ring")
        self.ring = own_copy(ring)


class Over(PhialError):
    def __init__(self, recipe, place):
        PhialError.__init__(self, f"recipe {recipe}, row {place}: a fill to less than lies in the bowl")
        self.recipe = recipe
        self.place = place


class Meet(PhialError):
    def __init__(self, recipe, one, other, ways):
        PhialError.__init__(self, f"in recipe {recipe} the wares {one} and {other} meet")
        self.recipe = recipe
        self.one = one
        self.other = other
        self.ways = own_copy(ways)


# Stage 3: plain meaning

class TooLarge(PhialError):
    def __init__(self, size):
        PhialError.__init__(self, "the tree is too large")
        self.size = size


# Stage 4: the bench

class NoDeed(PhialError):
    def __init__(self, place):
        PhialError.__init__(self, f"row {place} is no deed")
        self.place = place


class Dry(PhialError):
    def __init__(self, place, phial):
        PhialError.__init__(self, f"row {place}: phial {phial} holds nothing")
        self.place = place
        self.phial = phial


class Wet(PhialError):
    def __init__(self, place, phial):
        PhialError.__init__(self, f"row {place}: phial {phial} holds something")
        self.place = place
        self.phial = phial


class Low(PhialError):
    def __init__(self, place, phial):
        PhialError.__init__(self, f"row {place}: phial {phial} holds the level already")
        self.place = place
        self.phial = phial


class Spilt(PhialError):
    def __init__(self, place, phial, over):
        PhialError.__init__(self, f"row {place}: phial {phial} would hold more than its room")
        self.place = place
        self.phial = phial
        self.over = over


class Touch(PhialError):
    def __init__(self, place, phial, pair):
        PhialError.__init__(self, f"row {place}: in phial {phial} two wares meet that must not: {pair}")
        self.place = place
        self.phial = phial
        self.pair = pair


# Stage 5: rows made of trees

class Few(PhialError):
    def __init__(self, need, ready):
        PhialError.__init__(self, f"{need} phials are needed, {ready} are ready")
        self.need = need
        self.ready = ready


# Stage 7: strengths by told measures

class TooMany(PhialError):
    def __init__(self, most):
        PhialError.__init__(self, f"there are more rows than {most}")
        self.most = most


# Stage 8: lots, doses, called back

class NoThing(PhialError):
    pass


class Had(PhialError):
    pass


class Lacks(PhialError):
    def __init__(self, there):
        PhialError.__init__(self, f"only {there} spoons are there")
        self.there = there


class Stale(PhialError):
    def __init__(self, lots):
        PhialError.__init__(self, "lots are past their last day")
        self.lots = own_copy(lots)


class Back(PhialError):
    pass


class NoneLeft(PhialError):
    pass


# Stage 9: days and orders

class NoOrder(PhialError):
    def __init__(self, place):
        PhialError.__init__(self, f"there is no order at place {place}")
        self.place = place


# Stage 10: the desk

class NoRow(PhialError):
    pass
