"""The text of a program or a term, with brackets round all that is not bound closest."""

from elderhouse.guests import TRUTHS


def shown(program):
    found = []
    for house in program.all_houses:
        found.extend(house_words(house))
    found.append("main")
    found.extend(heading_words(program.main))
    return " ".join(found)


def shown_term(term):
    return " ".join(term_words(term))


def house_words(house):
    found = ["house", house.name]
    if house.elder is not None:
        found.extend(["of", house.elder])
    found.append("{")
    for name, kind in house.own_fields:
        found.extend(["has", name, kind])
    for word in house.own_words:
        found.extend(["can", word.name])
        found.extend(heading_words(word))
    found.append("}")
    return found


def heading_words(word):
    found = in_brackets([list(pair) for pair in word.params])
    found.extend([word.kind, "="])
    found.extend(term_words(word.body))
    return found


# Without a call within a call, so that no term is too deep for it: a term waits until the words ahead of it are told.
def term_words(term):
    found = []
    waiting = [term]
    while waiting:
        one = waiting.pop()
        if isinstance(one, str):
            found.append(one)
        else:
            waiting.extend(list(reversed(pieces(one))))
    return found


# The words and terms of which a term's text is put together.
def pieces(term):
    parts = term.parts()
    if term.form == "number":
        return [str(term.label)]
    if term.form == "truth":
        return [word for word in TRUTHS if TRUTHS[word] == term.label]
    if term.form == "name":
        return [term.label]
    if term.form == "self":
        return ["self"]
    if term.form == "new":
        return ["new", term.label] + in_brackets([[part] for part in parts])
    if term.form == "elder":
        return ["elder", ".", term.label] + in_brackets([[part] for part in parts])
    if term.form == "field":
        return [parts[0], ".", term.label]
    if term.form == "call":
        return [parts[0], ".", term.label] + in_brackets([[part] for part in parts[1:]])
    return ["("] + loose_pieces(term, parts) + [")"]


def loose_pieces(term, parts):
    if term.form == "not":
        return ["not", parts[0]]
    if term.form == "two":
        return [parts[0], term.label, parts[1]]
    if term.form == "if":
        return ["if", parts[0], "then", parts[1], "else", parts[2]]
    if term.form == "let":
        return ["let", term.label, "=", parts[0], "in", parts[1]]
    return ["set", parts[0], ".", term.label, "=", parts[1]]


def in_brackets(groups):
    found = ["("]
    for number, group in enumerate(groups):
        if number > 0:
            found.append(",")
        found.extend(group)
    found.append(")")
    return found
