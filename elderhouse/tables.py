"""Numbers of words and blocks, and the tables by which a house's words are found."""

from elderhouse.houses import Hall


def word_names(program):
    names = []
    for house in program.all_houses:
        names.extend([word.name for word in house.own_words if word.name not in names])
    return names


def tables(program):
    hall = Hall(program)
    firsts = first_blocks(program)
    names = word_names(program)
    told = []
    for house in hall.houses():
        told.append([found_block(hall, firsts, house, name) for name in names])
    return told


# For each house the number of its first word's block, or of the next block where it has no word.
def first_blocks(program):
    firsts = {}
    number = 0
    for house in program.all_houses:
        firsts[house.name] = number
        number += len(house.own_words)
    return firsts


def found_block(hall, firsts, house, word):
    where = hall.found(house, word)
    if where is None:
        return None
    return firsts[where[0]] + where[1]
