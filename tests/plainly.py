"""Points 13 to 16 once more, over the tuples themselves, by calls within calls: what an answer ought to be.

It knows nothing of the program's own parts; the tests hold these to it over many programs.
"""

import sys

GREATEST = 10 ** 15


class Ended(Exception):
    pass


class Thing:
    def __init__(self, house, number, inner):
        self.house, self.number, self.inner = house, number, inner


class World:
    def __init__(self, plain, most):
        self.houses = {house[0]: house for house in plain[0]}
        self.most, self.calls, self.within, self.things = most, 0, 0, []

    def row(self, house):
        """The house and its elders, the nearest first."""
        found = []
        while house is not None:
            found.append(self.houses[house])
            house = self.houses[house][1]
        return found

    def fields(self, house):
        return [field[0] for one in self.row(house)[::-1] for field in one[2]]

    def call(self, house, word, thing, values):
        where, found = [(one[0], own) for one in self.row(house) for own in one[3] if own[0] == word][0]
        if self.calls == self.most:
            raise Ended("dry")
        self.calls += 1
        if self.within == 40:
            raise Ended("deep")
        self.within += 1
        told = self.walk(found[3], {param[0]: value for param, value in zip(found[1], values)}, where, thing)
        self.within -= 1
        return told

    def two(self, sign, one, other):
        if sign == "=":
            return one is other if isinstance(one, Thing) else one == other
        if sign == "<":
            return one < other
        if sign == "/":
            if other == 0:
                raise Ended("refused", "nought")
            told = (one - one % other) // other
        else:
            told = {"+": one + other, "-": one - other, "*": one * other}[sign]
        if not -GREATEST <= told <= GREATEST:
            raise Ended("refused", "great")
        return told

    def walk(self, term, bound, house, own):
        def inner(part, also=bound):
            return self.walk(part, also, house, own)

        form = term[0]
        if form in ("number", "truth"):
            return term[1]
        if form == "name":
            return bound[term[1]]
        if form == "self":
            return own
        if form == "not":
            return not inner(term[1])
        if form == "two":
            one = inner(term[2])
            other = inner(term[3])
            return other if term[1] == ";" else self.two(term[1], one, other)
        if form == "if":
            return inner(term[2]) if inner(term[1]) else inner(term[3])
        if form == "let":
            return inner(term[3], {**bound, term[1]: inner(term[2])})
        if form == "new":
            values = dict(zip(self.fields(term[1]), [inner(part) for part in term[2]]))
            self.things.append(Thing(term[1], len(self.things), values))
            return self.things[-1]
        if form == "field":
            return inner(term[1]).inner[term[2]]
        if form == "set":
            thing, value = inner(term[1]), inner(term[3])
            thing.inner[term[2]] = value
            return value
        if form == "call":
            thing = inner(term[1])
            return self.call(thing.house, term[2], thing, [inner(part) for part in term[3]])
        return self.call(self.houses[house][1], term[1], own, [inner(part) for part in term[2]])


def told(value):
    return ("thing", value.number) if isinstance(value, Thing) else value


def walked(plain, numbers, most=100):
    """What elderhouse.walking.walked ought to tell of a program with this plain."""
    before = sys.getrecursionlimit()
    sys.setrecursionlimit(20000)
    world = World(plain, most)
    try:
        value = world.walk(plain[1][2], dict(zip([param[0] for param in plain[1][0]], numbers)), None, None)
        answer = ("thing", value.house) if isinstance(value, Thing) else ("value", value)
    except Ended as ended:
        answer = ended.args
    finally:
        sys.setrecursionlimit(before)
    return (answer, world.calls, [(thing.house, tuple(told(thing.inner[name]) for name in world.fields(thing.house)))
                                  for thing in world.things])
