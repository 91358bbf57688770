"""The whole: from text to answer."""

from elderhouse.checking import kinds_of
from elderhouse.errors import BadInput
from elderhouse.machine import Machine
from elderhouse.making import compiled
from elderhouse.names import need_names
from elderhouse.numbers import GREATEST
from elderhouse.reading import read
from elderhouse.straight import straightened
from elderhouse.tables import tables
from elderhouse.walking import walked

GREATEST_MOST = 1000


def checked(text):
    program = read(text)
    need_names(program)
    kinds_of(program)
    return program


def told_kind(text):
    return checked(text).main.kind


def answer(text, numbers, most=100, remembers=True, straight=True):
    program = checked(text)
    machine = over_machine(program, numbers, most, remembers, straight)
    names = [house.name for house in program.all_houses]
    things = [(names[house], inner) for house, inner in machine.things()]
    return (named(machine.answer(), names), machine.calls(), things)


def plain_answer(text, numbers, most=100):
    program = checked(text)
    need_numbers(program, numbers)
    need_most(most)
    return walked(program, numbers, most)


def looked(text, numbers, most=100, remembers=True, straight=True):
    machine = over_machine(checked(text), numbers, most, remembers, straight)
    return (machine.looks(), machine.hits())


# A machine that has gone on until all was over.
def over_machine(program, numbers, most, remembers, straight):
    need_numbers(program, numbers)
    need_most(most)
    need_truth(remembers)
    need_truth(straight)
    blocks = compiled(program)
    if straight:
        blocks = straightened(program, blocks)
    machine = Machine(blocks, tables(program), numbers, most, remembers)
    while machine.step():
        pass
    return machine


def named(told, names):
    if told[0] == "thing":
        return ("thing", names[told[1]])
    return told


def need_numbers(program, numbers):
    if not isinstance(numbers, list) or len(numbers) != len(program.main.params):
        raise BadInput("a list of as many numbers as main has params is wanted")
    if not all([is_whole(number) and abs(number) <= GREATEST for number in numbers]):
        raise BadInput("a number is none, or too great")


def need_most(most):
    if not is_whole(most) or not 0 <= most <= GREATEST_MOST:
        raise BadInput("a bound of calls is wanted")


def need_truth(value):
    if not isinstance(value, bool):
        raise BadInput("True or False is wanted")


def is_whole(value):
    return isinstance(value, int) and not isinstance(value, bool)
