"""Whether the kinds of a program go together, and the kind of each of its terms."""

from elderhouse.errors import BadKind
from elderhouse.houses import Hall
from elderhouse.kinds import fits, is_house, nearest


def kinds_of(program):
    hall = Hall(program)
    told = []
    for house in program.all_houses:
        for word in house.own_words:
            need_like_elders(hall, house, word)
            told.append(body_kinds(hall, house, word))
    told.append(body_kinds(hall, None, program.main))
    return told


def need_like_elders(hall, house, word):
    if house.elder is None:
        return
    head = hall.head(house.elder, word.name)
    if head is None:
        return
    params, kind = head
    if kinds_in(params) != kinds_in(word.params) or not fits(hall, word.kind, kind):
        raise BadKind(word.name)


def kinds_in(pairs):
    return [kind for name, kind in pairs]


# Main's house is None.
def body_kinds(hall, house, word):
    told = term_kinds(hall, house, word.body, dict(word.params))
    if not fits(hall, told[0], word.kind):
        raise BadKind(word.name)
    return told


# The term's own kind first, then those of its parts, and of theirs.
def term_kinds(hall, house, term, bound):
    firsts = []
    told = []
    for part in term.parts():
        inner = term_kinds(hall, house, part, bound_ahead(term, firsts, bound))
        firsts.append(inner[0])
        told.extend(inner)
    return [own_kind(hall, house, term, bound, firsts)] + told


# What is bound in a term's next part, the kinds of the parts ahead of it being known.
def bound_ahead(term, firsts, bound):
    if term.form != "let" or firsts == []:
        return bound
    more = dict(bound)
    more[term.label] = firsts[0]
    return more


def own_kind(hall, house, term, bound, parts):
    if term.form in ("number", "truth"):
        return term.form
    if term.form == "name":
        return bound[term.label]
    if term.form == "self":
        return house.name
    if term.form == "let":
        return parts[1]
    if term.form == "not":
        need("not", parts == ["truth"])
        return "truth"
    if term.form == "two":
        return two_kind(term.label, parts[0], parts[1])
    if term.form == "if":
        return if_kind(hall, parts)
    if term.form == "new":
        need(term.label, all_fit(hall, parts, hall.fields(term.label)))
        return term.label
    if term.form == "field":
        return field_kind(hall, parts[0], term.label)
    if term.form == "set":
        need(term.label, fits(hall, parts[1], field_kind(hall, parts[0], term.label)))
        return parts[1]
    if term.form == "call":
        return call_kind(hall, parts[0], term.label, parts[1:])
    return call_kind(hall, house.elder, term.label, parts)


def need(word, holds):
    if not holds:
        raise BadKind(word)


def two_kind(sign, one, other):
    if sign == ";":
        return other
    if sign == "=":
        need(sign, one == other or (is_house(one) and is_house(other)))
        return "truth"
    need(sign, one == "number" and other == "number")
    if sign == "<":
        return "truth"
    return "number"


def if_kind(hall, parts):
    common = nearest(hall, parts[1], parts[2])
    need("if", parts[0] == "truth" and common is not None)
    return common


def field_kind(hall, kind, field):
    need(field, is_house(kind) and hall.place(kind, field) is not None)
    return hall.fields(kind)[hall.place(kind, field)][1]


def call_kind(hall, kind, word, terms):
    need(word, is_house(kind) and hall.found(kind, word) is not None)
    params, told = hall.head(kind, word)
    need(word, all_fit(hall, terms, params))
    return told


def all_fit(hall, kinds, pairs):
    wanted = kinds_in(pairs)
    if len(kinds) != len(wanted):
        return False
    return all([fits(hall, one, other) for one, other in zip(kinds, wanted)])
