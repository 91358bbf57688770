"""What the signs tell of two numbers, and the bounds that both ways of answering keep."""

GREATEST = 1_000_000_000_000_000
# How many calls may stand within each other.
MOST_WITHIN = 40


def two_told(sign, a, b):
    if sign == "<":
        return ("value", a < b)
    if sign == "=":
        return ("value", a == b)
    if sign == "/" and b == 0:
        return ("refused", "nought")
    return bounded(number_told(sign, a, b))


def number_told(sign, a, b):
    if sign == "+":
        return a + b
    if sign == "-":
        return a - b
    if sign == "*":
        return a * b
    return a // b


def bounded(number):
    if abs(number) > GREATEST:
        return ("refused", "great")
    return ("value", number)
