"""Programs to try: some written ones of all forms, and as many as one likes that chance tells, all let by."""

import random

from elderhouse.building import program_of

# Each with numbers to hand in; together they hold every form, and every sort of answer.
WRITTEN = (
    ("main() number = 1", []),
    ("main(a number, b number) number = (a + b) * (a - b) / 2", [9, 4]),
    ("main(a number, b number) number = a / b", [1, 0]),
    ("main(a number) number = a * a * a", [999999]),
    ("main(a number) truth = not (a < 3) ; if a = 3 then yes else no", [3]),
    ("main(a number) number = let b = a in let a = b + 1 in (let b = a * 2 in b) + b + a", [5]),
    ("house a { has n number has t truth can get() number = self.n can put(x number) number = set self.n = x }"
     " main(x number) number = let t = new a(1, yes) in let u = t in u.put(x) ; t.get() + u.n", [7]),
    ("house a { can w() number = 1 can v() number = self.w() * 10 } house b of a { can w() number = elder.w() + 1 }"
     " house c of b { can w() number = elder.w() + 1 } house d of c { }"
     " main() number = new a().v() + new b().v() * 10 + new d().v() * 100", []),
    ("house z of y { has q z2 can w(p number) y = set self.q = new z2() ; self } house z2 { }"
     " house y { has n number can w(p number) y = new y(p) } main(p number) y = new z(1, new z2()).w(p)", [4]),
    ("house a { can w(n number) number = if n < 1 then 0 else n + self.w(n - 1) } main(n number) number = new a().w(n)",
     [30]),
    ("house a { can w(n number) number = if n < 1 then 0 else n + self.w(n - 1) } main(n number) number = new a().w(n)",
     [60]),
    ("house a { can w() number = 1 } main() number = let t = new a() in " + "t.w() + " * 10 + "1", []),
    ("house a { has o b } house b { has n number } main(x number) b = let p = new a(new b(x)) in"
     " (set p.o.n = p.o.n + 1) ; (set p.o = new b(p.o.n * 10)) ; p.o", [3]),
    ("house a { } house b of a { } main(x number) truth = let p = new a() in let q = if x < 1 then new b() else p in"
     " (p = q) = not (q = p)", [1]),
    ("house shape { can area() number = 0 can twice() number = self.area() + self.area() }"
     " house box of shape { has w number has h number can area() number = self.w * self.h }"
     " house cube of box { has d number can area() number = elder.area() * self.d }"
     " main(n number) number = (if n < 2 then new box(n, 2) else new cube(n, 2, 3)).twice()", [2]),
)


class Chance:
    """A program that chance tells: its kinds always go together, and no field needs a thing to make a thing."""

    def __init__(self, seed):
        self.chance = random.Random(seed)
        self.houses = []
        for number in range(self.chance.randint(0, 5)):
            self.houses.append(self.any_house(number))
        self.order = list(self.houses)
        self.chance.shuffle(self.order)

    def any_house(self, number):
        elder = self.chance.choice([None] + self.houses * 2)
        kinds = ["number", "number", "truth"] + [house["name"] for house in self.houses]
        fields = [("f%d%d" % (number, at), self.chance.choice(kinds)) for at in range(self.chance.randint(0, 2))]
        house = {"name": "h%d" % number, "elder": elder, "fields": fields, "words": {}}
        for at in range(self.chance.randint(0, 2)):
            params = [("p%d" % one, self.chance.choice(kinds)) for one in range(self.chance.randint(0, 2))]
            house["words"]["w%d%d" % (number, at)] = (params, self.chance.choice(kinds + [house["name"]]))
        for word, (params, kind) in self.words(elder).items():
            if self.chance.random() < 0.5:
                others = [("q%d" % at, param[1]) for at, param in enumerate(params)]
                house["words"][word] = (others, house["name"] if kind == elder["name"] else kind)
        return house

    def row(self, house):
        return [] if house is None else [house] + self.row(house["elder"])

    def words(self, house):
        found = {}
        for one in self.row(house)[::-1]:
            found.update(one["words"])
        return found

    def fields(self, house):
        return [field for one in self.row(house)[::-1] for field in one["fields"]]

    def house(self, name):
        return [house for house in self.houses if house["name"] == name][0]

    def fitting(self, kind):
        """The houses whose things may stand where the kind is wanted."""
        return [house for house in self.houses if kind in [one["name"] for one in self.row(house)]]

    def fits(self, one, other):
        return one == other or (one not in ("number", "truth") and self.house(one) in self.fitting(other))

    def simple(self, kind, bound, own):
        """A term without much in it."""
        choices = [("name", name) for name, each in bound.items() if self.fits(each, kind)] * 2
        if own is not None and self.fits(own["name"], kind):
            choices += [("self",)] * 2
        if kind == "number":
            choices.append(("number", self.chance.choice([0, 1, 1, 2, 3, 10, 99999, 999999999])))
        elif kind == "truth":
            choices.append(("truth", self.chance.random() < 0.5))
        elif not choices:
            # Of the house itself, whose fields are of earlier ones: a younger one's may be of its own kind.
            fields = self.fields(self.house(kind))
            choices.append(("new", kind, tuple(self.simple(each, bound, own) for _, each in fields)))
        return self.chance.choice(choices)

    def ways(self, kind, bound, own):
        """Houses' fields and words that tell what fits the kind."""
        fields = [(house["name"], name) for house in self.houses for name, each in self.fields(house)
                  if self.fits(each, kind)]
        words = [(house["name"], name) for house in self.houses for name, told in self.words(house).items()
                 if self.fits(told[1], kind)]
        elders = [] if own is None else [name for name, told in self.words(own["elder"]).items()
                                         if self.fits(told[1], kind)]
        return fields, words, elders

    def term(self, kind, bound, own, deep):
        if deep <= 1 or self.chance.random() < 0.1:
            return self.simple(kind, bound, own)

        def inner(wanted, also=bound):
            return self.term(wanted, also, own, deep - 1)

        def any_kind():
            return self.chance.choice(["number", "truth"] + [house["name"] for house in self.houses])

        def let():
            name, first = self.chance.choice(["x", "y", "p0", "z"]), any_kind()
            return ("let", name, inner(first), inner(kind, {**bound, name: first}))

        def of_numbers():
            return ("two", self.chance.choice("++-*/"), inner("number"), inner("number"))

        def same():
            one = any_kind()
            two = one if one in ("number", "truth") else self.chance.choice(self.houses)["name"]
            return ("two", "=", inner(one), inner(two))

        choices = [let, let, lambda: ("two", ";", inner(any_kind()), inner(kind)),
                   lambda: ("if", inner("truth"), inner(kind), inner(kind))]
        if kind == "number":
            choices += [of_numbers] * 3
        elif kind == "truth":
            choices += [same, lambda: ("two", "<", inner("number"), inner("number")), lambda: ("not", inner("truth"))]
        else:
            house = self.chance.choice(self.fitting(kind))
            choices += [lambda: ("new", house["name"], tuple(inner(each) for _, each in self.fields(house)))] * 2
        fields, words, elders = self.ways(kind, bound, own)
        if fields:
            name, field = self.chance.choice(fields)
            choices += [lambda: ("field", inner(name), field), lambda: ("set", inner(name), field, inner(kind))]
            if not self.fits(kind, dict(self.fields(self.house(name)))[field]):
                choices.pop()
        if words:
            of, word = self.chance.choice(words)
            params = self.words(self.house(of))[word][0]
            choices += [lambda: ("call", inner(of), word, tuple(inner(each) for _, each in params))] * 4
        if elders:
            other = self.chance.choice(elders)
            wanted = self.words(own["elder"])[other][0]
            choices += [lambda: ("elder", other, tuple(inner(each) for _, each in wanted))] * 4
        return self.chance.choice(choices)()

    def plain(self):
        houses = []
        for house in self.order:
            words = tuple((name, tuple(params), kind, self.term(kind, dict(params), house, 4))
                          for name, (params, kind) in house["words"].items())
            elder = None if house["elder"] is None else house["elder"]["name"]
            houses.append((house["name"], elder, tuple(house["fields"]), words))
        params = tuple(("m%d" % number, "number") for number in range(self.chance.randint(0, 3)))
        kind = self.chance.choice(["number", "truth"] + [house["name"] for house in self.houses])
        return (tuple(houses), (params, kind, self.term(kind, dict(params), None, 5)))


def told_by_chance(many, first=0):
    """So many pairs of a program's plain and numbers for it."""
    found = []
    for seed in range(first, first + many):
        plain = Chance(seed).plain()
        chance = random.Random(seed)
        found.append((plain, [chance.choice([-7, -1, 0, 1, 2, 5, 10 ** 15, -10 ** 15]) for _ in plain[1][0]]))
    return found


def programs(many):
    return [(program_of(plain), numbers) for plain, numbers in told_by_chance(many)]
