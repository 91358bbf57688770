"""Kinds: number, truth, and the names of houses; which fits which."""

NO_HOUSES = ("number", "truth")


def is_house(kind):
    return kind not in NO_HOUSES


def fits(hall, one, other):
    if one == other:
        return True
    return is_house(one) and is_house(other) and other in hall.elders(one)


def nearest(hall, one, other):
    if one == other:
        return one
    if not is_house(one) or not is_house(other):
        return None
    for common in [one] + hall.elders(one):
        if fits(hall, other, common):
            return common
    return None
