"""Points 15, 16, 18 to 23: the machine."""

import unittest

import plainly
from samples import WRITTEN, programs

from elderhouse.machine import Machine
from elderhouse.making import compiled
from elderhouse.reading import read
from elderhouse.tables import tables

GREAT, NOUGHT, DRY, DEEP = ("refused", "great"), ("refused", "nought"), ("dry",), ("deep",)
BACK = ("back",)


def machine_of(text, numbers=(), most=100, remembers=True):
    program = read(text)
    return Machine(compiled(program), tables(program), list(numbers), most, remembers)


def run(machine):
    steps = 0
    while machine.step():
        steps += 1
    return steps


class MachineCase(unittest.TestCase):
    def tells(self, machine, answer, calls, things):
        self.assertEqual(repr(machine.answer()), repr(answer))
        self.assertEqual(repr(machine.calls()), repr(calls))
        self.assertEqual(repr(machine.things()), repr(list(things)))

    def over(self, machine, answer, calls=0, things=()):
        """Over now, and from now on."""
        for _ in range(3):
            self.tells(machine, answer, calls, things)
            self.assertEqual(machine.frames(), [])
            rows = machine.rows_done()
            self.assertIs(machine.step(), False)
            self.assertEqual(machine.rows_done(), rows)

    def goes(self, machine, *frames):
        """Step by step: the frames behind each row, none where it is over."""
        for number, due in enumerate(frames):
            self.assertIs(machine.step(), True)
            self.assertEqual(machine.rows_done(), number + 1)
            self.assertEqual(repr(machine.frames()), repr(list(due)), number)


class Start(MachineCase):
    def test_before_the_first_row(self):
        machine = Machine([(2, 4, (("load", 0), BACK))], [], [5, 6])
        self.assertEqual(repr(machine.frames()), repr([(0, 0, (5, 6, None, None), ())]))
        self.tells(machine, None, 0, [])
        self.assertEqual((machine.looks(), machine.hits(), machine.rows_done()), (0, 0, 0))
        for told in (machine.frames(), machine.things()):
            self.assertIs(type(told), list)

    def test_mains_block_is_the_last(self):
        blocks = [(1, 1, (("push", 1), BACK)), (1, 1, (("push", 2), BACK)), (0, 0, (("push", 3), BACK))]
        machine = Machine(blocks, [[0], [1]], [])
        self.assertEqual(machine.frames(), [(2, 0, (), ())])
        run(machine)
        self.over(machine, ("value", 3))


class EachRow(MachineCase):
    def main(self, rows, size=2, numbers=(), blocks=(), houses=(), **more):
        return Machine(list(blocks) + [(len(numbers), size, tuple(rows))], list(houses), list(numbers), **more)

    def test_push_load_keep_drop(self):
        machine = self.main([("push", 7), ("keep", 1), ("load", 0), ("load", 1), ("drop",), BACK], 2, [5])
        self.goes(machine, [(0, 1, (5, None), (7,))], [(0, 2, (5, 7), ())], [(0, 3, (5, 7), (5,))],
                  [(0, 4, (5, 7), (5, 7))], [(0, 5, (5, 7), (5,))], [])
        self.over(machine, ("value", 5))
        self.assertEqual(machine.rows_done(), 6)

    def test_numbers(self):
        for name, due in (("add", 9), ("sub", 5), ("mul", 14), ("div", 3), ("less", False), ("same", False)):
            machine = self.main([("load", 0), ("load", 1), (name,), BACK], 2, [7, 2])
            self.goes(machine, [(0, 1, (7, 2), (7,))], [(0, 2, (7, 2), (7, 2))], [(0, 3, (7, 2), (due,))], [])
            self.over(machine, ("value", due))

    def test_not_skip_unless(self):
        machine = self.main([("push", True), ("not",), ("unless", 2), ("push", 1), ("skip", 1), ("push", 2), ("skip", 0),
                             BACK], 0)
        self.goes(machine, [(0, 1, (), (True,))], [(0, 2, (), (False,))], [(0, 5, (), ())], [(0, 6, (), (2,))],
                  [(0, 7, (), (2,))], [])
        self.over(machine, ("value", 2))
        machine = self.main([("push", True), ("unless", 2), ("push", 1), ("skip", 1), ("push", 2), BACK], 0)
        self.goes(machine, [(0, 1, (), (True,))], [(0, 2, (), ())], [(0, 3, (), (1,))], [(0, 5, (), (1,))], [])

    def test_make_get_put(self):
        machine = self.main([("push", 9), ("push", 1), ("push", True), ("make", 3, 2), ("keep", 0), ("load", 0), ("push", 5),
                             ("put", 0), ("drop",), ("load", 0), ("get", 0), BACK], 1)
        thing = ("thing", 0)
        self.goes(machine, [(0, 1, (None,), (9,))], [(0, 2, (None,), (9, 1))], [(0, 3, (None,), (9, 1, True))],
                  [(0, 4, (None,), (9, thing))])
        self.assertEqual(machine.things(), [(3, (1, True))])
        machine.step()
        machine.step()
        machine.step()
        self.assertEqual(machine.frames(), [(0, 7, (thing,), (9, thing, 5))])
        machine.step()
        self.assertEqual(machine.frames(), [(0, 8, (thing,), (9, 5))])
        self.assertEqual(machine.things(), [(3, (5, True))])
        run(machine)
        self.over(machine, ("value", 5), 0, [(3, (5, True))])

    def test_put_and_get_of_things_made_before(self):
        machine = self.main([("push", 1), ("push", 2), ("make", 0, 2), ("keep", 0), ("push", 3), ("load", 0), ("make", 1, 2),
                             ("keep", 1), ("make", 2, 0), ("drop",), ("load", 1), ("get", 1), ("push", 7), ("put", 1),
                             ("load", 0), ("get", 1), ("add",), ("load", 1), ("load", 0), ("put", 0), ("drop",), BACK], 2)
        run(machine)
        self.over(machine, ("value", 14), 0, [(0, (1, 7)), (1, (("thing", 0), ("thing", 0))), (2, ())])

    def test_make_takes_only_its_own(self):
        machine = self.main([("push", 1), ("push", 2), ("push", 3), ("make", 0, 0), ("drop",), ("make", 0, 1), ("drop",),
                             BACK])
        run(machine)
        self.over(machine, ("value", 2), 0, [(0, ()), (0, (3,))])

    def test_call(self):
        word = (3, 4, (("load", 1), ("load", 2), ("sub",), BACK))
        machine = self.main([("push", 9), ("make", 0, 0), ("push", 7), ("push", 2), ("call", 5, 1, 3), ("add",), BACK], 0,
                            blocks=[(1, 1, (BACK,)), word], houses=[[None, 1]])
        thing = ("thing", 0)
        for _ in range(4):
            machine.step()
        self.assertEqual(machine.frames(), [(2, 4, (), (9, thing, 7, 2))])
        self.assertEqual((machine.calls(), machine.looks(), machine.hits()), (0, 0, 0))
        machine.step()
        self.assertEqual(machine.frames(), [(2, 5, (), (9,)), (1, 0, (thing, 7, 2, None), ())])
        self.assertEqual((machine.calls(), machine.looks(), machine.hits()), (1, 1, 0))
        for _ in range(3):
            machine.step()
        self.assertEqual(machine.frames(), [(2, 5, (), (9,)), (1, 3, (thing, 7, 2, None), (5,))])
        machine.step()
        self.assertEqual(machine.frames(), [(2, 5, (), (9, 5))])
        self.assertEqual(run(machine), 2)
        self.over(machine, ("value", 14), 1, [(0, ())])

    def test_straight(self):
        word = (2, 2, (("load", 0), ("get", 0), ("load", 1), ("mul",), BACK))
        machine = self.main([("push", 9), ("push", 6), ("make", 0, 1), ("push", 7), ("straight", 0, 2), ("add",), BACK], 0,
                            blocks=[word], houses=[[None]])
        for _ in range(5):
            machine.step()
        self.assertEqual(machine.frames(), [(1, 5, (), (9,)), (0, 0, (("thing", 0), 7), ())])
        run(machine)
        self.over(machine, ("value", 51), 1, [(0, (6,))])
        self.assertEqual((machine.looks(), machine.hits()), (0, 0))

    def test_back_amid_other_rows_and_with_more_on_the_stack(self):
        word = (1, 1, (("push", 1), ("push", 2), ("push", True), ("unless", 1), BACK, ("push", 3), BACK))
        machine = self.main([("make", 0, 0), ("straight", 0, 1), ("push", 5), ("push", 6), BACK, ("push", 7), BACK],
                            0, blocks=[word], houses=[[0]])
        for _ in range(6):
            machine.step()
        self.assertEqual(machine.frames(), [(1, 2, (), ()), (0, 4, (("thing", 0),), (1, 2))])
        machine.step()
        self.assertEqual(machine.frames(), [(1, 2, (), (2,))])
        run(machine)
        self.over(machine, ("value", 6), 1, [(0, ())])
        self.assertEqual(machine.rows_done(), 10)

    def test_answers(self):
        for rows, answer, things in (([("push", True), BACK], ("value", True), []), ([("push", 0), BACK], ("value", 0), []),
                                     ([("make", 6, 0), BACK], ("thing", 6), [(6, ())]),
                                     ([("make", 0, 0), ("make", 4, 0), BACK], ("thing", 4), [(0, ()), (4, ())])):
            machine = self.main(rows)
            run(machine)
            self.over(machine, answer, 0, things)

    def test_refusals(self):
        for rows, refusal in (([("push", 1), ("push", 0), ("div",)], NOUGHT),
                              ([("load", 0), ("push", 1), ("add",)], GREAT)):
            machine = self.main([("push", 4)] + rows + [BACK], 1, [10 ** 15])
            self.assertEqual(run(machine), 4)
            self.assertEqual(machine.rows_done(), 4)
            self.over(machine, refusal)

    def test_a_refusal_within_calls(self):
        machine = machine_of("house a { has n number can w() number = (set self.n = 4) / 0 } main() number = new a(1).w()")
        run(machine)
        self.over(machine, NOUGHT, 1, [(0, (4,))])


COUNT = "house a { can w(n number) number = if n < 1 then 0 else self.w(n - 1) + 1 } main(n number) number = new a().w(n)"
ONES = "house a { can w() number = 1 } main() number = let t = new a() in t.w() + t.w() + t.w()"


class HowMany(MachineCase):
    def test_most(self):
        for most, answer, calls in ((0, DRY, 0), (1, DRY, 1), (2, DRY, 2), (3, ("value", 3), 3), (4, ("value", 3), 3)):
            machine = machine_of(ONES, [], most)
            run(machine)
            self.over(machine, answer, calls, [(0, ())])

    def test_most_left_out(self):
        program = read("house a { can w() number = 1 } main() number = 1")
        blocks = [(1, 1, (("push", 1), BACK)), (0, 0, (("make", 0, 0), ("straight", 0, 1), ("drop",)) * 100
                                               + (("push", 5), BACK))]
        machine = Machine(blocks, tables(program), [])
        run(machine)
        self.over(machine, ("value", 5), 100, [(0, ())] * 100)
        blocks[1] = (0, 0, (("make", 0, 0), ("straight", 0, 1), ("drop",)) * 101 + (("push", 5), BACK))
        machine = Machine(blocks, tables(program), [])
        run(machine)
        self.over(machine, DRY, 100, [(0, ())] * 101)

    def test_straights_count(self):
        for most, answer, calls in ((1, DRY, 1), (2, ("value", 2), 2)):
            machine = machine_of("house a { can w() number = 1 } house b of a { can w() number = elder.w() + 1 }"
                                 " main() number = new b().w()", [], most)
            run(machine)
            self.over(machine, answer, calls, [(1, ())])

    def test_forty_within_each_other(self):
        machine = machine_of(COUNT, [39])
        deepest = 0
        while machine.step():
            deepest = max(deepest, len(machine.frames()))
        self.assertEqual(deepest, 41)
        self.over(machine, ("value", 39), 40, [(0, ())])
        machine = machine_of(COUNT, [40])
        run(machine)
        self.over(machine, DEEP, 41, [(0, ())])

    def test_dry_ahead_of_deep(self):
        for most, answer, calls in ((40, DRY, 40), (41, DEEP, 41)):
            machine = machine_of(COUNT, [40], most)
            run(machine)
            self.over(machine, answer, calls, [(0, ())])

    def test_a_call_beside_one_that_has_ended(self):
        machine = machine_of(COUNT.replace("= new a().w(n)", "= new a().w(n) + new a().w(n)"), [39], 1000)
        run(machine)
        self.over(machine, ("value", 78), 80, [(0, ()), (0, ())])

    def test_rows_done_at_each_sort_of_end(self):
        main = ("make", 0, 0), ("call", 0, 0, 1)
        for word, most, answer, rows in (((("push", 1), BACK), 9, ("value", 1), 5), ((("push", 1), BACK), 0, DRY, 2),
                                         ((("push", 1), ("push", 0), ("div",), BACK), 9, NOUGHT, 5),
                                         ((("load", 0), ("straight", 0, 1), BACK), 99, DEEP, 2 + 2 * 40)):
            machine = Machine([(1, 1, word), (0, 0, main + (BACK,))], [[0]], [], most)
            self.assertEqual(run(machine), rows)
            self.assertEqual(machine.rows_done(), rows)
            self.assertEqual(machine.answer(), answer)
            self.assertEqual(machine.frames(), [])


# Calls at one site, 7, the houses as told: each row makes a thing of the house, and calls.
def calling(houses, most=100, remembers=True, word=(("push", 1), BACK)):
    rows = [("make", 0, 0), ("keep", 0), ("make", 1, 0), ("keep", 1), ("make", 2, 0), ("keep", 2)]
    blocks = [(1, 1, word)] * 3
    # A word that calls at the site what it is handed, so that it is one site for all.
    blocks.append((2, 2, (("load", 1), ("call", 7, 0, 1), BACK)))
    for house in houses:
        rows += [("load", 0), ("load", house), ("straight", 3, 2), ("drop",)]
    blocks.append((0, 3, tuple(rows) + (("push", 5), BACK)))
    return Machine(blocks, [[0, 3], [1, 3], [2, 3]], [], most, remembers)


class Remembering(MachineCase):
    def looked(self, houses, looks, hits, **more):
        machine = calling(houses, **more)
        run(machine)
        self.assertEqual((machine.looks(), machine.hits()), (looks, hits), houses)

    def test_one_house(self):
        self.looked([0], 1, 0)
        self.looked([0, 0], 1, 1)
        self.looked([2, 2, 2, 2], 1, 3)

    def test_two_houses(self):
        self.looked([0, 1], 2, 0)
        self.looked([0, 1, 0, 1, 0, 1], 2, 4)
        self.looked([0, 0, 1, 1, 0, 0], 2, 4)

    def test_three_houses(self):
        self.looked([0, 1, 2], 3, 0)
        self.looked([0, 1, 2, 0], 4, 0)
        self.looked([0, 1, 2, 1, 2], 3, 2)
        self.looked([0, 1, 0, 2, 0], 3, 2)
        self.looked([0, 1, 0, 2, 1], 4, 1)
        self.looked([0, 1, 2, 0, 1, 2], 6, 0)

    def test_without_it_each_call_is_a_look(self):
        self.looked([0, 0, 0, 1, 1, 2], 6, 0, remembers=False)
        self.looked([], 0, 0, remembers=False)

    def test_left_out(self):
        program = read(ONES.replace("t.w() + t.w() + t.w()", "1"))
        self.assertEqual(Machine(compiled(program), tables(program), []).hits(), 0)
        blocks = [(1, 1, (("push", 1), BACK)), (2, 2, (("load", 1), ("call", 7, 0, 1), BACK)),
                  (0, 1, (("make", 0, 0), ("keep", 0)) + (("load", 0), ("load", 0), ("straight", 1, 2)) * 3 + (BACK,))]
        machine = Machine(blocks, [[0]], [])
        run(machine)
        self.assertEqual((machine.looks(), machine.hits()), (1, 2))

    def test_sites_of_any_numbers(self):
        blocks = [(1, 1, (("push", 1), BACK)),
                  (0, 1, (("make", 0, 0), ("keep", 0), ("load", 0), ("call", 10 ** 9, 0, 1), ("load", 0), ("call", 0, 0, 1),
                          ("load", 0), ("call", 10 ** 9, 0, 1), BACK))]
        machine = Machine(blocks, [[0]], [])
        run(machine)
        self.assertEqual((machine.looks(), machine.hits()), (2, 1))

    def test_sites_have_nothing_to_do_with_one_another(self):
        machine = machine_of(ONES)
        run(machine)
        self.assertEqual((machine.looks(), machine.hits()), (3, 0))

    def test_the_remembered_block_is_called(self):
        # Blocks tell their own number; two houses by turns.
        rows = (("make", 0, 0), ("keep", 0), ("make", 1, 0), ("keep", 1), ("push", 0))
        for house in (0, 1, 0, 1, 1, 0):
            rows += (("push", 10), ("mul",), ("load", 0), ("load", house), ("straight", 2, 2), ("add",))
        blocks = [(1, 1, (("push", 3), BACK)), (1, 1, (("push", 4), BACK)),
                  (2, 2, (("load", 1), ("call", 0, 0, 1), BACK)), (0, 2, rows + (BACK,))]
        for remembers in (True, False):
            machine = Machine(blocks, [[0], [1]], [], 100, remembers)
            run(machine)
            self.over(machine, ("value", 343443), 12, [(0, ()), (1, ())])

    def test_looked_up_ahead_of_dry(self):
        for remembers in (True, False):
            machine = machine_of(ONES, [], 0, remembers)
            run(machine)
            self.assertEqual((machine.answer(), machine.calls(), machine.looks(), machine.hits()), (DRY, 0, 1, 0))
        machine = calling([0, 0], most=3)
        run(machine)
        self.assertEqual((machine.answer(), machine.calls(), machine.looks(), machine.hits()), (DRY, 3, 1, 1))

    def test_looked_up_ahead_of_deep(self):
        machine = machine_of(COUNT, [50])
        run(machine)
        self.assertEqual((machine.answer(), machine.calls(), machine.looks(), machine.hits()), (DEEP, 41, 2, 39))
        machine = machine_of(COUNT, [50], 100, False)
        run(machine)
        self.assertEqual((machine.answer(), machine.calls(), machine.looks(), machine.hits()), (DEEP, 41, 41, 0))

    def test_a_straight_is_neither(self):
        machine = machine_of("house a { can w() number = 1 } house b of a { can w() number = elder.w() + elder.w() }"
                             " main() number = new b().w()")
        run(machine)
        self.assertEqual((machine.calls(), machine.looks(), machine.hits()), (3, 1, 0))


class NothingIsShared(MachineCase):
    def test_two_machines_of_the_same_lists_by_turns(self):
        program = read(COUNT)
        blocks, words = compiled(program), tables(program)
        one, other = Machine(blocks, words, [5]), Machine(blocks, words, [7])
        goes = True
        while goes:
            goes = one.step()
            goes = other.step() or goes
        self.over(one, ("value", 5), 6, [(0, ())])
        self.over(other, ("value", 7), 8, [(0, ())])
        self.assertEqual((one.looks(), one.hits(), other.looks(), other.hits()), (2, 4, 2, 6))

    def test_lists_that_were_handed_in(self):
        program = read(COUNT)
        blocks, words, numbers = compiled(program), tables(program), [5]
        machine = Machine(blocks, words, numbers)
        self.assertEqual((blocks, words, numbers), (compiled(program), tables(program), [5]))
        machine.step()
        numbers[0] = 9
        numbers.append(1)
        blocks[0] = (2, 2, (("push", 1), BACK))
        blocks.append((0, 0, (("push", 8), BACK)))
        words[0][0] = 1
        words.clear()
        run(machine)
        self.over(machine, ("value", 5), 6, [(0, ())])

    def test_lists_of_tables_within_the_list(self):
        program = read(COUNT)
        words = tables(program)
        machine = Machine(compiled(program), words, [5])
        words[0][0] = 1
        run(machine)
        self.over(machine, ("value", 5), 6, [(0, ())])

    def test_running_changes_nothing_that_was_handed_in(self):
        program = read(WRITTEN[-1][0])
        blocks, words, numbers = compiled(program), tables(program), list(WRITTEN[-1][1])
        run(Machine(blocks, words, numbers))
        self.assertEqual((blocks, words, numbers), (compiled(program), tables(program), WRITTEN[-1][1]))

    def test_lists_that_were_told(self):
        machine = machine_of("house a { has n number can w() number = set self.n = 2 } main() number = new a(1).w() + 1")
        for _ in range(5):
            machine.step()
        frames, things = machine.frames(), machine.things()
        kept = (list(frames), list(things))
        frames.clear()
        things.append((9, (9,)))
        things[0] = (8, ())
        self.assertEqual((machine.frames(), machine.things()), kept)
        again = machine.frames(), machine.things()
        run(machine)
        self.assertEqual(again, kept)
        machine.things().clear()
        machine.frames().append(5)
        self.over(machine, ("value", 3), 1, [(0, (2,))])


class ManyPrograms(MachineCase):
    def test_as_by_walking(self):
        written = [(read(text), numbers) for text, numbers in WRITTEN]
        for program, numbers in written + programs(250):
            names = [house[0] for house in program.plain()[0]]
            for remembers in (True, False):
                for most in (2, 100):
                    machine = Machine(compiled(program), tables(program), numbers, most, remembers)
                    run(machine)
                    answer, calls, things = plainly.walked(program.plain(), numbers, most)
                    if answer[0] == "thing":
                        answer = ("thing", names.index(answer[1]))
                    self.over(machine, answer, calls, [(names.index(house), inner) for house, inner in things])


if __name__ == "__main__":
    unittest.main()
