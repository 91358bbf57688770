"""Terms and programs made of the tuples that tell them."""

from elderhouse.terms import House, Program, Term, Word


def program_of(plain):
    told_houses, told_main = plain
    params, kind, body = told_main
    return Program([house_of(house) for house in told_houses], word_of(("main", params, kind, body)))


def house_of(plain):
    name, elder, own_fields, own_words = plain
    return House(name, elder, own_fields, [word_of(word) for word in own_words])


def word_of(plain):
    name, params, kind, body = plain
    return Word(name, params, kind, term_of(body))


# Without a call within a call, so that no tuple is too deep for it.
def term_of(plain):
    built = []
    for one in reversed(all_within(plain)):
        inner = [built.pop() for part in parts_of(one)]
        built.append(Term(one[0], label_of(one), list(reversed(inner))))
    return built[0]


# Each ahead of its parts, parts from the right: walked from the end, parts come ahead of it, and from the left.
def all_within(plain):
    found = []
    waiting = [plain]
    while waiting:
        one = waiting.pop()
        found.append(one)
        waiting.extend(parts_of(one))
    return found


def parts_of(plain):
    form = plain[0]
    if form in ("not", "if"):
        return plain[1:]
    if form in ("two", "let"):
        return plain[2:]
    if form in ("new", "elder"):
        return plain[2]
    if form == "call":
        return (plain[1],) + plain[3]
    if form in ("field", "set"):
        return (plain[1],) + plain[3:]
    return ()


def label_of(plain):
    form = plain[0]
    if form in ("self", "not", "if"):
        return None
    if form in ("field", "call", "set"):
        return plain[2]
    return plain[1]
