"""Reading a text to a program."""

from elderhouse.errors import BadForm
from elderhouse.guests import TRUTHS, Guest
from elderhouse.terms import House, Program, Term, Word
from elderhouse.words import is_name, is_number, words

MOST_HOUSES = 12
MOST_FIELDS = 4
MOST_WORDS = 8
MOST_PARAMS = 4
MOST_TERMS = 8
MOST_DEEP = 14
MOST_SIZE = 400
MOST_OPEN = 14

STRENGTHS = {";": 1, "<": 2, "=": 2, "+": 3, "-": 3, "*": 4, "/": 4}
WEAKEST = 1
ABOVE_WEAKEST = 2


def read(text):
    row = words(text)
    need_few_open(row)
    guest = Guest(row)
    all_houses = []
    while guest.takes("house"):
        all_houses.append(read_house(guest))
    need_few(all_houses, MOST_HOUSES)
    guest.need("main")
    main = read_word(guest, "main")
    guest.need_end()
    if not all([kind == "number" for name, kind in main.params]):
        raise BadForm("a param of main is no number")
    program = Program(all_houses, main)
    need_bounds(program)
    return program


# Asked ahead of all reading, since it bounds how many calls stand within each other there.
def need_few_open(row):
    still_open = 0
    for word in row:
        if word == "(":
            still_open += 1
        elif word == ")":
            still_open -= 1
        if still_open > MOST_OPEN:
            raise BadForm("too many brackets stand open at once")


def need_few(found, most):
    if len(found) > most:
        raise BadForm(f"more than {most} of a sort")


def need_bounds(program):
    if any([body.depth() > MOST_DEEP for body in program.bodies()]):
        raise BadForm("a body is too deep")
    if sum([body.size() for body in program.bodies()]) > MOST_SIZE:
        raise BadForm("too many terms")


def read_house(guest):
    name = guest.need_name()
    elder = None
    if guest.takes("of"):
        elder = guest.need_name()
    guest.need("{")
    own_fields = []
    while guest.takes("has"):
        own_fields.append(read_pair(guest))
    need_few(own_fields, MOST_FIELDS)
    own_words = []
    while guest.takes("can"):
        own_words.append(read_word(guest, guest.need_name()))
    need_few(own_words, MOST_WORDS)
    guest.need("}")
    return House(name, elder, own_fields, own_words)


def read_word(guest, name):
    params = read_list(guest, read_pair)
    need_few(params, MOST_PARAMS)
    kind = read_kind(guest)
    guest.need("=")
    return Word(name, params, kind, read_term(guest, WEAKEST, WEAKEST, 1))


def read_pair(guest):
    name = guest.need_name()
    return (name, read_kind(guest))


def read_kind(guest):
    if guest.takes("number"):
        return "number"
    if guest.takes("truth"):
        return "truth"
    return guest.need_name()


def read_list(guest, read_item):
    guest.need("(")
    found = []
    if guest.takes(")"):
        return found
    found.append(read_item(guest))
    while guest.takes(","):
        found.append(read_item(guest))
    guest.need(")")
    return found


def read_terms(guest, deep):
    found = read_list(guest, lambda one: read_term(one, WEAKEST, WEAKEST, deep))
    need_few(found, MOST_TERMS)
    return found


# Signs of at least the strength least are taken; lowest is the strength down to which the last term of a let
# takes them that ends where this term does. Deep is how deep the term stands at least.
def read_term(guest, least, lowest, deep):
    term = read_part(guest, lowest, deep)
    while STRENGTHS.get(guest.ahead(), 0) >= least:
        sign = guest.take()
        if sign == ";":
            right = read_term(guest, WEAKEST, lowest, deep + 1)
        else:
            right = read_term(guest, STRENGTHS[sign] + 1, lowest, deep + 1)
        term = Term("two", sign, [term, right])
        if sign in ("<", "=") and guest.ahead() in ("<", "="):
            raise BadForm("two of < and = side by side")
    return term


# What is too deep is refused at once, not when all is read, so that calls within each other stay few.
def read_part(guest, lowest, deep):
    if deep > MOST_DEEP:
        raise BadForm("a body is too deep")
    if guest.takes("not"):
        return Term("not", None, [read_part(guest, lowest, deep + 1)])
    if guest.takes("if"):
        return read_if(guest, deep)
    if guest.takes("let"):
        return read_let(guest, lowest, deep)
    if guest.takes("set"):
        return read_set(guest, deep)
    return read_pointed(guest, deep)


def read_if(guest, deep):
    asked = read_term(guest, WEAKEST, WEAKEST, deep + 1)
    guest.need("then")
    wanted = read_term(guest, WEAKEST, WEAKEST, deep + 1)
    guest.need("else")
    other = read_term(guest, ABOVE_WEAKEST, ABOVE_WEAKEST, deep + 1)
    return Term("if", None, [asked, wanted, other])


def read_let(guest, lowest, deep):
    name = guest.need_name()
    guest.need("=")
    first = read_term(guest, WEAKEST, WEAKEST, deep + 1)
    guest.need("in")
    return Term("let", name, [first, read_term(guest, lowest, lowest, deep + 1)])


# A field that ends by a bracket is one in brackets: none of those may be set.
def read_set(guest, deep):
    field = read_pointed(guest, deep)
    if field.form != "field" or guest.behind() == ")":
        raise BadForm("only a field is set")
    guest.need("=")
    value = read_term(guest, ABOVE_WEAKEST, ABOVE_WEAKEST, deep + 1)
    return Term("set", field.label, field.parts() + [value])


def read_pointed(guest, deep):
    term = read_one(guest, deep)
    while guest.takes("."):
        name = guest.need_name()
        if guest.ahead() == "(":
            term = Term("call", name, [term] + read_terms(guest, deep + 1))
        else:
            term = Term("field", name, [term])
    return term


def read_one(guest, deep):
    word = guest.take()
    if is_number(word):
        return Term("number", int(word), [])
    if word in TRUTHS:
        return Term("truth", TRUTHS[word], [])
    if is_name(word):
        return Term("name", word, [])
    if word == "self":
        return Term("self", None, [])
    if word == "new":
        name = guest.need_name()
        return Term("new", name, read_terms(guest, deep + 1))
    if word == "elder":
        guest.need(".")
        name = guest.need_name()
        return Term("elder", name, read_terms(guest, deep + 1))
    if word == "(":
        term = read_term(guest, WEAKEST, WEAKEST, deep)
        guest.need(")")
        return term
    raise BadForm("a term is wanted")
