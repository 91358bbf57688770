"""Point 25, and what point 1 says of the whole: from text to answer."""

import unittest

import plainly
from samples import WRITTEN, told_by_chance

from elderhouse.building import program_of
from elderhouse.errors import BadForm, BadInput, BadKind, BadName, BadWords
from elderhouse.machine import Machine
from elderhouse.making import compiled
from elderhouse.reading import read
from elderhouse.running import answer, checked, looked, plain_answer, told_kind
from elderhouse.showing import shown
from elderhouse.straight import straightened
from elderhouse.tables import tables
from elderhouse.terms import Program

MOST = 10 ** 15
TWO = "main(a number, b number) number = a + b"
NO_WORDS, NO_FORM, NO_NAME, NO_KIND = "main() number = X", "main() number =", "main() number = x", "main() number = yes"
WAYS = [(remembers, straight) for remembers in (True, False) for straight in (True, False)]

# What is no list of two whole numbers within the bounds.
NO_NUMBERS = (None, 5, "12", "", (1, 2), (), {}, {1: 2, 3: 4}, {1, 2}, [], [1], [1, 2, 3], [1, True], [False, 2],
              [1, "2"], [None, 2], [1, 2.0], [1, [2]], [1, (2,)], [MOST + 1, 0], [0, MOST + 1], [-MOST - 1, 0],
              [0, -MOST - 1], [10 ** 30, 0], range(2), b"12", 1.5, True, object(), [1, object()])
NO_MOST = (-1, 1001, 10 ** 20, -10 ** 20, True, False, None, "5", "", 5.0, [5], (5,), {}, object())
NO_TRUTHS = (1, 0, None, "yes", "", [], [True], (True,), 1.0, {}, object())


class Texts(unittest.TestCase):
    def test_checked(self):
        program = checked(TWO)
        self.assertIsInstance(program, Program)
        self.assertEqual(program.plain(), read(TWO).plain())

    def test_told_kind(self):
        for text, due in ((TWO, "number"), ("main() truth = yes", "truth"), ("house a { } main() a = new a()", "a"),
                          ("house a { } house b of a { } main() a = new b()", "a")):
            self.assertEqual(told_kind(text), due)

    def test_refusals_of_each_sort(self):
        for ask in (checked, told_kind, lambda text: answer(text, []), lambda text: plain_answer(text, []),
                    lambda text: looked(text, [])):
            for text, refusal, field, due in (
                    (NO_WORDS, BadWords, "at", 16), (None, BadWords, "at", 0), (5, BadWords, "at", 0),
                    (" " * 6001, BadWords, "at", 0), (NO_FORM, BadForm, None, None), ("", BadForm, None, None),
                    (NO_NAME, BadName, "word", "x"), (NO_KIND, BadKind, "word", "main"),
                    ("main() number = 1 + yes", BadKind, "word", "+")):
                with self.assertRaises(refusal) as caught:
                    ask(text)
                self.assertIs(type(caught.exception), refusal)
                if field:
                    self.assertEqual(getattr(caught.exception, field), due)

    def test_which_comes_first(self):
        for text, refusal in (("main() number = yes + x + X", BadWords), ("main() number = yes + x +", BadForm),
                              ("main() number = yes + x", BadName), ("main() number = yes + 1", BadKind)):
            for ask in (checked, told_kind, lambda text: answer(text, None, None, None, None),
                        lambda text: plain_answer(text, None, None),
                        lambda text: looked(text, None, None, None, None)):
                with self.assertRaises(refusal) as caught:
                    ask(text)
                self.assertIs(type(caught.exception), refusal)


class Inputs(unittest.TestCase):
    def refused(self, ask, *handed):
        with self.assertRaises(BadInput, msg=handed) as caught:
            ask(*handed)
        self.assertIs(type(caught.exception), BadInput)

    def test_numbers(self):
        for numbers in NO_NUMBERS:
            for ask in (answer, plain_answer, looked):
                self.refused(ask, TWO, numbers)
        for ask in (answer, plain_answer, looked):
            self.refused(ask, "main() number = 1", [1])
            self.refused(ask, "main() number = 1", ())
            self.refused(ask, "main() number = 1", None)
            ask("main() number = 1", [])

    def test_numbers_within_the_bounds(self):
        for one in (MOST, -MOST, 0, 1):
            self.assertEqual(answer(TWO, [one, 0]), (("value", one), 0, []))
            self.assertEqual(plain_answer(TWO, [one, 0]), (("value", one), 0, []))
            self.assertEqual(looked(TWO, [one, 0]), (0, 0))

    def test_most(self):
        for most in NO_MOST:
            for ask in (answer, plain_answer, looked):
                self.refused(ask, TWO, [1, 2], most)
        for most in (0, 1, 100, 999, 1000):
            self.assertEqual(answer(TWO, [1, 2], most), (("value", 3), 0, []))
            self.assertEqual(plain_answer(TWO, [1, 2], most), (("value", 3), 0, []))
            self.assertEqual(looked(TWO, [1, 2], most), (0, 0))

    def test_truths(self):
        for other in NO_TRUTHS:
            for ask in (answer, looked):
                self.refused(ask, TWO, [1, 2], 100, other)
                self.refused(ask, TWO, [1, 2], 100, True, other)
                self.refused(ask, TWO, [1, 2], 100, other, other)

    def test_all_wrong_at_once(self):
        self.refused(answer, TWO, None, None, None, None)
        self.refused(looked, TWO, None, None, None, None)
        self.refused(plain_answer, TWO, None, None)

    def test_behind_the_texts_refusals(self):
        for text, refusal in ((NO_WORDS, BadWords), (NO_FORM, BadForm), (NO_NAME, BadName), (NO_KIND, BadKind)):
            for numbers in NO_NUMBERS[:12]:
                for ask in (answer, plain_answer, looked):
                    with self.assertRaises(refusal):
                        ask(text, numbers)
            for most in NO_MOST[:6]:
                for ask in (answer, plain_answer, looked):
                    with self.assertRaises(refusal):
                        ask(text, [], most)
            for ask in (answer, looked):
                with self.assertRaises(refusal):
                    ask(text, [], 5, 1, None)

    def test_by_their_names(self):
        self.assertEqual(answer(text=TWO, numbers=[1, 2], most=5, remembers=False, straight=False), (("value", 3), 0, []))
        self.assertEqual(looked(text=TWO, numbers=[1, 2], most=5, remembers=False, straight=False), (0, 0))
        self.assertEqual(plain_answer(text=TWO, numbers=[1, 2], most=5), (("value", 3), 0, []))


CALLS = ("house a { can w() number = 1 can v() number = self.w() + self.w() } house b of a { can w() number = 2 }"
         " house c { can w() number = 3 }"
         " main(n number) number = (if n < 1 then new a() else new b()).v() + new c().w()")


class Answers(unittest.TestCase):
    def test_written_out(self):
        for text, numbers, due in (
                ("main() number = 1", [], (("value", 1), 0, [])),
                ("main() truth = no", [], (("value", False), 0, [])),
                ("main(a number) number = 1 / a", [0], (("refused", "nought"), 0, [])),
                ("main(a number) number = a + a", [MOST], (("refused", "great"), 0, [])),
                ("house z { } house a { has o z } house b of a { } main() a = new b(new z())", [],
                 (("thing", "b"), 0, [("z", ()), ("b", (("thing", 0),))])),
                (CALLS, [0], (("value", 5), 4, [("a", ()), ("c", ())])),
                (CALLS, [1], (("value", 7), 4, [("b", ()), ("c", ())]))):
            self.assertEqual(repr(plain_answer(text, numbers)), repr(due))
            self.assertEqual(repr(answer(text, numbers)), repr(due))
            for remembers, straight in WAYS:
                self.assertEqual(repr(answer(text, numbers, 100, remembers, straight)), repr(due))

    def test_most(self):
        for most in range(6):
            due = plain_answer(CALLS, [0], most)
            self.assertEqual(due[0], ("dry",) if most < 4 else ("value", 5))
            for remembers, straight in WAYS:
                self.assertEqual(answer(CALLS, [0], most, remembers, straight), due)

    def test_left_out_is_a_hundred(self):
        text = ("house a { can w(n number) number = if n < 1 then 0 else 1 + self.w(n - 1) } main(n number) number ="
                " let t = new a() in t.w(29) + t.w(29) + t.w(n)")
        self.assertEqual(answer(text, [38])[:2], (("value", 96), 99))
        self.assertEqual(answer(text, [39])[:2], (("value", 97), 100))
        self.assertEqual(plain_answer(text, [39])[:2], (("value", 97), 100))
        text = text.replace("t.w(29) + t.w(29)", "t.w(30) + t.w(29)")
        self.assertEqual(answer(text, [39])[:2], (("dry",), 100))
        self.assertEqual(plain_answer(text, [39])[:2], (("dry",), 100))

    def test_looked(self):
        # Sites: two of self.w in v, the call of v, the call of c's w. Only the first two may be meant for two places.
        self.assertEqual(looked(CALLS, [0]), (2, 0))
        self.assertEqual(looked(CALLS, [0], 100, True, True), (2, 0))
        self.assertEqual(looked(CALLS, [0], 100, True, False), (4, 0))
        self.assertEqual(looked(CALLS, [0], 100, False, True), (2, 0))
        self.assertEqual(looked(CALLS, [0], 100, False, False), (4, 0))
        text = ("house a { can w(n number) number = if n < 1 then 0 else 1 + self.w(n - 1) } %s"
                "main(n number) number = new a().w(n)")
        self.assertEqual(looked(text % "", [9]), (0, 0))
        self.assertEqual(looked(text % "", [9], 100, True, False), (2, 8))
        self.assertEqual(looked(text % "", [9], 100, False, False), (10, 0))
        self.assertEqual(looked(text % "", [9], 5, True, False), (2, 4))
        younger = "house b of a { can w(n number) number = 5 } "
        self.assertEqual(looked(text % younger, [9]), (2, 8))
        self.assertEqual(looked(text % younger, [9], 100, False), (10, 0))

    def test_what_is_told_is_the_askers_own(self):
        numbers = [1]
        one, other = answer(CALLS, numbers), plain_answer(CALLS, numbers)
        one[2].clear()
        other[2].clear()
        self.assertEqual(numbers, [1])
        self.assertEqual(answer(CALLS, numbers), (("value", 7), 4, [("b", ()), ("c", ())]))
        self.assertEqual(plain_answer(CALLS, numbers), answer(CALLS, numbers))
        numbers[0] = 0
        self.assertEqual(answer(CALLS, [1]), (("value", 7), 4, [("b", ()), ("c", ())]))
        checked(CALLS).bodies().clear()
        self.assertEqual(len(checked(CALLS).bodies()), 5)


class AllWays(unittest.TestCase):
    def alike(self, text, numbers, most):
        due = plainly.walked(read(text).plain(), numbers, most)
        self.assertEqual(repr(plain_answer(text, numbers, most)), repr(due), text)
        for remembers, straight in WAYS:
            self.assertEqual(repr(answer(text, numbers, most, remembers, straight)), repr(due), text)
            self.looked_as_the_machine(text, numbers, most, remembers, straight)
        return due[0] if due[0][0] == "refused" else due[0][0]

    def looked_as_the_machine(self, text, numbers, most, remembers, straight):
        program = read(text)
        blocks = compiled(program)
        if straight:
            blocks = straightened(program, blocks)
        machine = Machine(blocks, tables(program), numbers, most, remembers)
        while machine.step():
            pass
        told = looked(text, numbers, most, remembers, straight)
        self.assertEqual(told, (machine.looks(), machine.hits()))
        self.assertIs(type(told), tuple)

    def test_written_ones(self):
        for text, numbers in WRITTEN:
            for most in (0, 3, 100, 1000):
                self.alike(text, numbers, most)

    def test_those_that_chance_tells(self):
        sorts = []
        for plain, numbers in told_by_chance(90, 5000):
            text = shown(program_of(plain))
            try:
                read(text)
            except (BadForm, BadWords):
                continue
            sorts += [self.alike(text, numbers, 4), self.alike(text, numbers, 100)]
        self.assertGreater(len(sorts), 150)
        self.assertEqual(set(sorts), {"value", "thing", ("refused", "great"), ("refused", "nought"), "dry", "deep"})


if __name__ == "__main__":
    unittest.main()
