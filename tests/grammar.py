"""Point 4 and 5 once more, written as rules without any doubt between them: what a row of words may be read as.

A rule's right side is a row of words and of other rules' names; each side that fits a stretch of words tells a tree.
It is slow, and knows nothing of the bounds of point 6: the tests hold the reader to it over many short texts.
"""

import re

TOLD = set("house of has can main let in if then else new self elder set not yes no number truth".split())


def is_name(word):
    return bool(re.fullmatch("[a-z][a-z0-9]{0,7}", word)) and word not in TOLD


def two(parts):
    return ("two", parts[1], parts[0], parts[2])


def only(parts):
    return parts[0]


# P: ends by a term that binds closest. F: ends by an if, a set or a let that goes on; C: where a ; ends the let too.
# S: ends by an if or a set. NAME and NUMBER are single words.
RULES = {
    "ANY": [("P2", only), ("F2", only), ("P2 ; ANY", two), ("S2 ; ANY", two)],
    "CLOSED": [("P2", only), ("C2", only)],
    "P2": [("P3", only), ("P3 < P3", two), ("P3 = P3", two)],
    "P3": [("P4", only), ("P3 + P4", two), ("P3 - P4", two)],
    "P4": [("P5", only), ("P4 * P5", two), ("P4 / P5", two)],
    "P5": [("P6", only), ("not P5", lambda parts: ("not", parts[1]))],
    "P6": [("PLACE", only), ("OTHER", only)],
    "PLACE": [("P6 . NAME", lambda parts: ("field", parts[0], parts[2]))],
    "OTHER": [
        ("NUMBER", lambda parts: ("number", int(parts[0]))),
        ("yes", lambda parts: ("truth", True)),
        ("no", lambda parts: ("truth", False)),
        ("NAME", lambda parts: ("name", parts[0])),
        ("self", lambda parts: ("self",)),
        ("new NAME ( LIST )", lambda parts: ("new", parts[1], parts[3])),
        ("elder . NAME ( LIST )", lambda parts: ("elder", parts[2], parts[4])),
        ("( ANY )", lambda parts: parts[1]),
        ("P6 . NAME ( LIST )", lambda parts: ("call", parts[0], parts[2], parts[4])),
    ],
    "LIST": [("", lambda parts: ()), ("MORE", only)],
    "MORE": [("ANY", lambda parts: (parts[0],)), ("ANY , MORE", lambda parts: (parts[0],) + parts[2])],
    "IF": [("if ANY then ANY else CLOSED", lambda parts: ("if", parts[1], parts[3], parts[5]))],
    "SET": [("set PLACE = CLOSED", lambda parts: ("set", parts[1][1], parts[1][2], parts[3]))],
    "F": [("let NAME = ANY in ANY", lambda parts: ("let", parts[1], parts[3], parts[5])), ("S", only)],
    "C": [("let NAME = ANY in CLOSED", lambda parts: ("let", parts[1], parts[3], parts[5])), ("S", only)],
    "S": [("IF", only), ("SET", only)],
}
for end in "FCS":
    RULES[end + "5"] = [(end, only), ("not " + end + "5", lambda parts: ("not", parts[1]))]
    RULES[end + "4"] = [(end + "5", only), ("P4 * " + end + "5", two), ("P4 / " + end + "5", two)]
    RULES[end + "3"] = [(end + "4", only), ("P3 + " + end + "4", two), ("P3 - " + end + "4", two)]
    RULES[end + "2"] = [(end + "3", only), ("P3 < " + end + "3", two), ("P3 = " + end + "3", two)]


def readings(row):
    """All trees that the words may be read as: one at most, if the rules are sound."""
    row, known = tuple(row), {}

    def by_rule(rule, start, end):
        key = (rule, start, end)
        if key not in known:
            known[key] = []
            for side, tree in RULES[rule]:
                known[key] += [tree(parts) for parts in by_side(side.split(), start, end)]
        return known[key]

    def by_side(side, start, end):
        if not side:
            return [[]] if start == end else []
        if end - start < len([item for item in side if item != "LIST"]):
            return []
        if len(side) == 1 and side[0] in RULES:
            return [[part] for part in by_rule(side[0], start, end)]
        if side[-1] not in RULES:
            if not fits(side[-1], row[end - 1]):
                return []
            return [parts + [row[end - 1]] for parts in by_side(side[:-1], start, end - 1)]
        found = []
        for middle in range(start, end + 1):
            if side[-2] in RULES or (middle > start and fits(side[-2], row[middle - 1])):
                lasts = by_rule(side[-1], middle, end)
                if lasts:
                    found += [parts + [last] for parts in by_side(side[:-1], start, middle) for last in lasts]
        return found

    def fits(wanted, word):
        if wanted == "NAME":
            return is_name(word)
        if wanted == "NUMBER":
            return word.isdigit()
        return wanted == word

    return by_rule("ANY", 0, len(row))
