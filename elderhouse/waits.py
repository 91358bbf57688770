"""What walking keeps while it goes: where a term stands, and what waits there to be done."""


# Where a term stands: the house whose word it belongs to (None in main), the thing that is self, and the bound names.
class Scope:
    def __init__(self, house, own_thing, bound):
        self.house = house
        self.own_thing = own_thing
        self.bound = dict(bound)

    def binding(self, name, value):
        inner = Scope(self.house, self.own_thing, self.bound)
        inner.bound[name] = value
        return inner


# Steps that wait, the last one to be done first, and the values that are known already, the last one known last.
# They are kept here rather than in calls of Python's own, which would stand too many within each other.
class Waits:
    def __init__(self):
        self.waiting = []
        self.known = []

    def wait(self, step, term, scope):
        self.waiting.append((step, term, scope))

    def is_over(self):
        return self.waiting == []

    def take_step(self):
        return self.waiting.pop()

    def know(self, value):
        self.known.append(value)

    def take_value(self):
        return self.known.pop()

    def take_values(self, many):
        taken = [self.known.pop() for number in range(many)]
        return list(reversed(taken))
