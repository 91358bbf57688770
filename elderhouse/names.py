"""Whether the names of a program are let by."""

from elderhouse.errors import BadName
from elderhouse.houses import Hall
from elderhouse.kinds import is_house


def need_names(program):
    need_new_houses(program)
    need_elders(program)
    need_no_rings(program)
    # Only now: a hall can't be asked for elders that are none, or that lead back.
    hall = Hall(program)
    for house in program.all_houses:
        need_fields(hall, house)
        need_words(hall, house)
    need_heading(hall, program.main)
    for house in program.all_houses:
        for word in house.own_words:
            need_body(hall, word, house)
    need_body(hall, program.main, None)


def need_new_houses(program):
    earlier = []
    for house in program.all_houses:
        need_new_name(house.name, earlier)
        earlier.append(house.name)


def need_new_name(name, earlier):
    if name in earlier:
        raise BadName(name)


def need_elders(program):
    names = [house.name for house in program.all_houses]
    for house in program.all_houses:
        if house.elder is not None and house.elder not in names:
            raise BadName(house.elder)


def need_no_rings(program):
    elder_of = {}
    for house in program.all_houses:
        elder_of[house.name] = house.elder
    for name in elder_of:
        if leads_back(name, elder_of):
            raise BadName(name)


# As many steps as there are houses, since a ring that is met on the way need not hold the house itself.
def leads_back(name, elder_of):
    one = elder_of[name]
    for step in range(len(elder_of)):
        if one is None or one == name:
            return one == name
        one = elder_of[one]
    return False


def need_fields(hall, house):
    earlier = []
    if house.elder is not None:
        earlier = [name for name, kind in hall.fields(house.elder)]
    for name, kind in house.own_fields:
        need_new_name(name, earlier)
        need_kind(hall, kind)
        earlier.append(name)


def need_words(hall, house):
    earlier = []
    for word in house.own_words:
        need_new_name(word.name, earlier)
        need_heading(hall, word)
        earlier.append(word.name)


def need_heading(hall, word):
    earlier = []
    for name, kind in word.params:
        need_new_name(name, earlier)
        need_kind(hall, kind)
        earlier.append(name)
    need_kind(hall, word.kind)


def need_kind(hall, kind):
    if is_house(kind) and kind not in hall.houses():
        raise BadName(kind)


# Main's house is None. Terms wait with the names that are bound there.
def need_body(hall, word, house):
    waiting = [(word.body, [name for name, kind in word.params])]
    while waiting:
        term, bound = waiting.pop()
        need_term(hall, term, bound, house)
        waiting.extend(list(reversed(parts_and_bound(term, bound))))


def parts_and_bound(term, bound):
    if term.form == "let":
        first, last = term.parts()
        return [(first, bound), (last, bound + [term.label])]
    return [(part, bound) for part in term.parts()]


def need_term(hall, term, bound, house):
    if term.form == "name" and term.label not in bound:
        raise BadName(term.label)
    if term.form == "new" and term.label not in hall.houses():
        raise BadName(term.label)
    if term.form in ("self", "elder") and house is None:
        raise BadName(term.form)
    if term.form == "elder" and house.elder is None:
        raise BadName("elder")
