"""Terms, and the program that is made of them, with their telling as tuples."""


class Term:
    # The label is what a term tells besides its parts: its number, truth, name or sign; None where it tells none.
    # Depth, size and tuple are reckoned here from those of the parts, so that no term is too deep to be asked.
    def __init__(self, form, label, parts):
        self.form = form
        self.label = label
        self.inner = tuple(parts)
        self.deep = 1 + max([part.depth() for part in self.inner], default=0)
        self.many = 1 + sum([part.size() for part in self.inner])
        self.shape = shape_of(form, label, tuple([part.plain() for part in self.inner]))

    def plain(self):
        return self.shape

    def parts(self):
        return list(self.inner)

    def depth(self):
        return self.deep

    def size(self):
        return self.many


def shape_of(form, label, parts):
    if form in ("self", "not", "if"):
        return (form,) + parts
    if form in ("new", "elder"):
        return (form, label, parts)
    if form == "call":
        return (form, parts[0], label, parts[1:])
    if form in ("field", "set"):
        return (form, parts[0], label) + parts[1:]
    return (form, label) + parts


# A program's main is held as a word, too, called main.
class Word:
    def __init__(self, name, params, kind, body):
        self.name = name
        self.params = pairs_of(params)
        self.kind = kind
        self.body = body

    def plain(self):
        return (self.name, self.params, self.kind, self.body.plain())


class House:
    def __init__(self, name, elder, own_fields, own_words):
        self.name = name
        self.elder = elder
        self.own_fields = pairs_of(own_fields)
        self.own_words = tuple(own_words)

    def plain(self):
        told = tuple([word.plain() for word in self.own_words])
        return (self.name, self.elder, self.own_fields, told)


class Program:
    def __init__(self, all_houses, main):
        self.all_houses = tuple(all_houses)
        self.main = main

    def plain(self):
        told = tuple([house.plain() for house in self.all_houses])
        return (told, (self.main.params, self.main.kind, self.main.body.plain()))

    def bodies(self):
        told = []
        for house in self.all_houses:
            told.extend([word.body for word in house.own_words])
        told.append(self.main.body)
        return told


# Made anew as tuples, so that nothing done later to what was handed in comes through.
def pairs_of(pairs):
    return tuple([tuple(pair) for pair in pairs])
