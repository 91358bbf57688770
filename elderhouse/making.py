"""Making blocks of rows of a program."""

from elderhouse.checking import kinds_of
from elderhouse.houses import Hall
from elderhouse.tables import first_blocks, found_block, word_names

SIGN_ROWS = {"+": "add", "-": "sub", "*": "mul", "/": "div", "<": "less", "=": "same"}


def compiled(program):
    return Maker(program).all_blocks()


# For each site, by its number, the kind of the thing and the name of the word that are called there.
def call_sites(program):
    maker = Maker(program)
    maker.all_blocks()
    return maker.sites


class Maker:
    def __init__(self, program):
        self.program = program
        self.hall = Hall(program)
        self.word_order = word_names(program)
        self.firsts = first_blocks(program)
        self.sites = []

    def all_blocks(self):
        kinds = kinds_of(self.program)
        blocks = []
        for house in self.program.all_houses:
            for word in house.own_words:
                blocks.append(self.block(house, word, kinds[len(blocks)]))
        blocks.append(self.block(None, self.program.main, kinds[len(blocks)]))
        return blocks

    # The bound names stand in the order of their slots; main's house is None.
    def block(self, house, word, kinds):
        bound = [name for name, kind in word.params]
        if house is not None:
            bound = ["self"] + bound
        rows = self.rows(word.body, kinds, bound, house) + [("back",)]
        return (len(bound), most_bound(len(bound), rows), tuple(rows))

    # The kinds are those of the term and of all terms in it, each ahead of its parts.
    def rows(self, term, kinds, bound, house):
        inner = []
        for number, part in enumerate(term.parts()):
            if term.form == "let" and number == 1:
                inner.append(self.rows(part, part_kinds(term, kinds, number), bound + [term.label], house))
            else:
                inner.append(self.rows(part, part_kinds(term, kinds, number), bound, house))
        if term.form == "let":
            return inner[0] + [("keep", len(bound))] + inner[1]
        if term.form == "if":
            return if_rows(inner)
        if term.form == "two" and term.label == ";":
            return inner[0] + [("drop",)] + inner[1]
        if term.form == "elder":
            inner = [[("load", 0)]] + inner
        return joined(inner) + [self.own_row(term, kinds, bound, house)]

    def own_row(self, term, kinds, bound, house):
        many = len(term.parts())
        if term.form in ("number", "truth"):
            return ("push", term.label)
        if term.form == "name":
            return ("load", last_slot(bound, term.label))
        if term.form == "self":
            return ("load", 0)
        if term.form == "not":
            return ("not",)
        if term.form == "two":
            return (SIGN_ROWS[term.label],)
        if term.form == "new":
            return ("make", self.hall.houses().index(term.label), many)
        if term.form == "field":
            return ("get", self.hall.place(kinds[1], term.label))
        if term.form == "set":
            return ("put", self.hall.place(kinds[1], term.label))
        if term.form == "call":
            self.sites.append((kinds[1], term.label))
            return ("call", len(self.sites) - 1, self.word_order.index(term.label), many)
        return ("straight", found_block(self.hall, self.firsts, house.elder, term.label), many + 1)


def part_kinds(term, kinds, number):
    start = 1 + sum([part.size() for part in term.parts()[:number]])
    return kinds[start:start + term.parts()[number].size()]


def if_rows(inner):
    asked, wanted, other = inner
    return asked + [("unless", len(wanted) + 1)] + wanted + [("skip", len(other))] + other


def joined(rows):
    told = []
    for some in rows:
        told.extend(some)
    return told


# The innermost binding of the name, which hides the others.
def last_slot(bound, name):
    return max([slot for slot, one in enumerate(bound) if one == name])


# Each let keeps its value in the slot behind those that are bound where it stands: the last such slot tells the most.
def most_bound(many, rows):
    return max([many] + [row[1] + 1 for row in rows if row[0] == "keep"])
