"""Calls for which only one place can be meant."""

from elderhouse.houses import Hall
from elderhouse.making import call_sites
from elderhouse.tables import first_blocks, found_block


def meant(program, kind, word):
    hall = Hall(program)
    firsts = first_blocks(program)
    found = {}
    for house in [kind] + hall.younger(kind):
        found[found_block(hall, firsts, house, word)] = True
    return sorted(found)


def straightened(program, blocks):
    sites = [meant(program, kind, word) for kind, word in call_sites(program)]
    return [straight_block(sites, block) for block in blocks]


def straight_block(sites, block):
    many, size, rows = block
    return (many, size, tuple([straight_row(sites, row) for row in rows]))


def straight_row(sites, row):
    if row[0] != "call" or len(sites[row[1]]) != 1:
        return row
    return ("straight", sites[row[1]][0], row[3])
