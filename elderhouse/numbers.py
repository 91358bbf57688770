"""What the signs tell of two numbers."""

GREATEST = 1_000_000_000_000_000


def two_told(sign, a, b):
    if sign == "<":
        return ("value", a < b)
    if sign == "=":
        return ("value", a == b)
    if sign == "/" and b == 0:
        return ("refused", "nought")
    return bounded(number_told(sign, a, b))


def number_told(sign, a, b):
    if sign == "+":
        return a + b
    if sign == "-":
        return a - b
    if sign == "*":
        return a * b
    return a // b


def bounded(number):
    if abs(number) > GREATEST:
        return ("refused", "great")
    return ("value", number)
