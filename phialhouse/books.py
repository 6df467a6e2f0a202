"""Books of lots, stores and doses: every deed numbered, every dose traced back to its lots."""

from phialhouse.amounts import is_whole_number
from phialhouse.errors import Back, Had, Lacks, NoAmount, NoneLeft, NoThing, Stale
from phialhouse.holdings import put_together, shared, total_of
from phialhouse.mixtures import is_ware

MOST_SPOONS = 1000000
LATEST_DAY = 1000000

# A thing in the books is a tuple (word, last day, holding, ways), never changed, but put in the place of the one ahead
# of it; so what a deed changed can be laid back as it was. The last day is None but for lots. Ways are a dict that has,
# for each lot in the holding, one row of pours (a tuple of numbers of deeds) by which it came in.
def new_lot(name, many, last_day):
    return ("lot", last_day, {name: (many, 1)}, {name: ()})


def new_vessel(word):
    return (word, None, {}, {})


def with_holding(thing, holding, ways):
    return (thing[0], thing[1], holding, ways)


# What the source is and what the goal is behind a pour. A goal that has some of a lot was never without anything since
# that came in, so its row of pours still holds; a source poured out has no rows any more.
def poured(source, goal, many, number):
    shares = shared(source[2], many)
    ways = dict(goal[3])
    for lot in shares[0]:
        if lot not in ways:
            ways[lot] = source[3][lot] + (number,)
    left = with_holding(source, shares[1], source[3] if shares[1] != {} else {})
    return (left, with_holding(goal, put_together(goal[2], shares[0]), ways))


def refuse_no_spoons(many):
    if not is_whole_number(many) or not 1 <= many <= MOST_SPOONS:
        raise NoAmount("this is no number of spoons")


def refuse_no_day(day):
    if not is_whole_number(day) or not 0 <= day <= LATEST_DAY:
        raise NoAmount("this is no day")


def refuse_no_name(thing):
    if not is_ware(thing):
        raise NoThing("this is no name")


class Books:
    def __init__(self):
        self.deeds = []
        self.things = {}
        self.day = 0
        # For each deed what it changed, as it was ahead of it: pairs (name, thing or None), and the day.
        self.before = []

    def take(self, name, ware, many, last):
        refuse_no_name(name)
        refuse_no_name(ware)
        self.refuse_had(name)
        refuse_no_spoons(many)
        refuse_no_day(last)
        return self.note(("take", name, ware, many, last), {name: new_lot(name, many, last)})

    def pour(self, source, goal, many):
        self.refuse_no_source(source)
        self.refuse_no_goal(source, goal)
        refuse_no_spoons(many)
        self.refuse_to_pour(source, many)
        into = self.things.get(goal, new_vessel("store"))
        behind = poured(self.things[source], into, many, len(self.deeds))
        return self.note(("pour", source, goal, many), {source: behind[0], goal: behind[1]})

    def give(self, source, name, many):
        self.refuse_no_source(source)
        refuse_no_name(name)
        self.refuse_had(name)
        refuse_no_spoons(many)
        self.refuse_to_pour(source, many)
        behind = poured(self.things[source], new_vessel("dose"), many, len(self.deeds))
        return self.note(("give", source, name, many), {source: behind[0], name: behind[1]})

    def go(self, day):
        refuse_no_day(day)
        if day < self.day:
            raise Back("this day is over")
        number = self.note(("go", day), {})
        self.day = day
        return number

    def note(self, deed, changed):
        self.before.append(([(name, self.things.get(name)) for name in changed], self.day))
        self.things.update(changed)
        self.deeds.append(deed)
        return len(self.deeds) - 1

    def back(self):
        if self.deeds == []:
            raise NoneLeft("there is no deed to take back")
        before = self.before.pop()
        for name, thing in before[0]:
            if thing is None:
                self.things.pop(name)
            else:
                self.things[name] = thing
        self.day = before[1]
        return self.deeds.pop()

    def refuse_had(self, name):
        if name in self.things:
            raise Had("something has this name")

    def is_one_of(self, name, words):
        return is_ware(name) and name in self.things and self.things[name][0] in words

    def refuse_no_source(self, source):
        if not self.is_one_of(source, ("lot", "store")):
            raise NoThing("this is no lot or store")

    def refuse_no_goal(self, source, goal):
        refuse_no_name(goal)
        if goal == source or self.is_one_of(goal, ("lot", "dose")):
            raise NoThing("this is no store to pour into")

    def refuse_to_pour(self, source, many):
        there = self.total(source)
        if many > there:
            raise Lacks(there)
        stale = [lot for lot in sorted(self.things[source][2]) if self.things[lot][1] < self.day]
        if stale != []:
            raise Stale(stale)

    def thing_of(self, name):
        if not self.is_one_of(name, ("lot", "store", "dose")):
            raise NoThing("nothing has this name")
        return self.things[name]

    def held(self, name):
        holding = self.thing_of(name)[2]
        return [(lot, holding[lot]) for lot in sorted(holding)]

    def total(self, name):
        return total_of(self.thing_of(name)[2])[0]

    def last(self, name):
        return min([self.things[lot][1] for lot in self.thing_of(name)[2]], default=None)

    def rows_to(self, name):
        ways = self.thing_of(name)[3]
        return [(lot, list(ways[lot])) for lot in sorted(ways)]

    def called(self, lot):
        if not self.is_one_of(lot, ("lot",)):
            raise NoThing("this is no lot")
        doses = [name for name in sorted(self.things) if self.is_one_of(name, ("dose",))]
        return [(name, list(self.things[name][3][lot])) for name in doses if lot in self.things[name][2]]

    def done(self):
        return list(self.deeds)

    def today(self):
        return self.day

    def names(self):
        return [(name, self.things[name][0]) for name in sorted(self.things)]
