"""Frames of the machine, and the rows that touch nothing but their own frame."""

from elderhouse.numbers import two_told

ROW_SIGNS = {"add": "+", "sub": "-", "mul": "*", "div": "/", "less": "<", "same": "="}


def entered(block, number, values):
    bound = tuple(values)
    return (number, 0, bound + (None,) * (block[1] - len(bound)), ())


def own_done(row, frame, things):
    number, at, slots, stack = frame
    name = row[0]
    if name in ROW_SIGNS:
        return two_done(ROW_SIGNS[name], frame)
    if name == "push":
        return (behind(frame, 0, row[1]), None)
    if name == "load":
        return (behind(frame, 0, slots[row[1]]), None)
    if name == "not":
        return (behind(frame, 1, not stack[-1]), None)
    if name == "get":
        return (behind(frame, 1, field_value(things, stack[-1], row[1])), None)
    if name == "keep":
        kept = slots[:row[1]] + (stack[-1],) + slots[row[1] + 1:]
        return ((number, at + 1, kept, stack[:-1]), None)
    if name == "drop":
        return ((number, at + 1, slots, stack[:-1]), None)
    if name == "skip":
        return ((number, at + 1 + row[1], slots, stack), None)
    over = 0 if stack[-1] else row[1]
    return ((number, at + 1 + over, slots, stack[:-1]), None)


def two_done(sign, frame):
    stack = frame[3]
    told = two_told(sign, stack[-2], stack[-1])
    if told[0] == "refused":
        return (frame, told)
    return (behind(frame, 2, told[1]), None)


# The frame behind its row, which popped so many values and pushed this one.
def behind(frame, many, value):
    number, at, slots, stack = frame
    return (number, at + 1, slots, stack[:len(stack) - many] + (value,))


def field_value(things, thing, place):
    house, inner = things[thing[1]]
    return inner[place]
