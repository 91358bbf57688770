"""Answering a program by walking its terms."""

from elderhouse.houses import Hall
from elderhouse.numbers import MOST_WITHIN, two_told
from elderhouse.waits import Scope, Waits


def walked(program, numbers, most=100):
    walk = Walk(program, most)
    bound = dict(zip([name for name, kind in program.main.params], numbers))
    walk.waits.wait("walk", program.main.body, Scope(None, None, bound))
    while walk.ended is None and not walk.waits.is_over():
        walk.go_on()
    things = [(house, tuple(inner)) for house, inner in walk.made]
    return (walk.told_answer(), walk.counted, things)


# Ended is the answer by which all ended ahead of its time, else None.
class Walk:
    def __init__(self, program, most):
        self.hall = Hall(program)
        self.most = most
        self.waits = Waits()
        self.made = []
        self.counted = 0
        self.within = 0
        self.ended = None

    def told_answer(self):
        if self.ended is not None:
            return self.ended
        value = self.waits.take_value()
        if isinstance(value, tuple):
            return ("thing", self.house_of(value))
        return ("value", value)

    def go_on(self):
        step, term, scope = self.waits.take_step()
        if step == "walk":
            self.begin(term, scope)
        elif step == "choose":
            self.choose(term, scope)
        elif step == "finish":
            self.finish(term, scope)
        else:
            self.within -= 1

    def begin(self, term, scope):
        if term.form in ("number", "truth"):
            self.waits.know(term.label)
        elif term.form == "name":
            self.waits.know(scope.bound[term.label])
        elif term.form == "self":
            self.waits.know(scope.own_thing)
        elif chooses(term):
            self.waits.wait("choose", term, scope)
            self.waits.wait("walk", term.parts()[0], scope)
        else:
            self.waits.wait("finish", term, scope)
            for part in reversed(term.parts()):
                self.waits.wait("walk", part, scope)

    def choose(self, term, scope):
        value = self.waits.take_value()
        parts = term.parts()
        if term.form == "let":
            self.waits.wait("walk", parts[1], scope.binding(term.label, value))
        elif term.form == "if" and not value:
            self.waits.wait("walk", parts[2], scope)
        else:
            self.waits.wait("walk", parts[1], scope)

    def finish(self, term, scope):
        values = self.waits.take_values(len(term.parts()))
        if term.form == "not":
            self.waits.know(not values[0])
        elif term.form == "two":
            self.two(term.label, values[0], values[1])
        elif term.form == "new":
            self.made.append((term.label, values))
            self.waits.know(("thing", len(self.made) - 1))
        elif term.form == "field":
            self.waits.know(self.inner_of(values[0])[self.place_in(values[0], term.label)])
        elif term.form == "set":
            inner = self.inner_of(values[0])
            inner[self.place_in(values[0], term.label)] = values[1]
            self.waits.know(values[1])
        elif term.form == "call":
            self.call(self.house_of(values[0]), term.label, values[0], values[1:])
        else:
            self.call(self.hall.elders(scope.house)[0], term.label, scope.own_thing, values)

    def two(self, sign, one, other):
        told = two_told(sign, one, other)
        if told[0] == "value":
            self.waits.know(told[1])
        else:
            self.ended = told

    def call(self, house, word, thing, values):
        if self.counted >= self.most:
            self.ended = ("dry",)
            return
        self.counted += 1
        if self.within >= MOST_WITHIN:
            self.ended = ("deep",)
            return
        self.within += 1
        found = self.hall.found_word(house, word)
        bound = dict(zip([name for name, kind in found.params], values))
        scope = Scope(self.hall.found(house, word)[0], thing, bound)
        self.waits.wait("leave", None, None)
        self.waits.wait("walk", found.body, scope)

    def house_of(self, thing):
        return self.made[thing[1]][0]

    def inner_of(self, thing):
        return self.made[thing[1]][1]

    def place_in(self, thing, field):
        return self.hall.place(self.house_of(thing), field)


# Those whose first part is walked by itself; what is walked behind it is chosen then.
def chooses(term):
    return term.form in ("if", "let") or (term.form == "two" and term.label == ";")
