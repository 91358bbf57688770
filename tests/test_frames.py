"""Points 13, 18 and 22: frames, and rows that touch their own frame alone."""

import unittest

from elderhouse.frames import entered, own_done

MOST = 10 ** 15
GREAT, NOUGHT = ("refused", "great"), ("refused", "nought")
T0, T1, T2 = ("thing", 0), ("thing", 1), ("thing", 2)
THINGS = [("box", (7, True, T1)), ("bag", (T0,)), ("box", (8, False, T2))]
NUMBERED = [(4, (7, True, T1)), (0, (T0,)), (4, (8, False, T2))]


class Entered(unittest.TestCase):
    def test_values_in_the_first_slots(self):
        rows = (("push", 1), ("back",))
        for values, size, slots in (((), 0, ()), ((), 2, (None, None)), ((5,), 1, (5,)), ((5, True), 2, (5, True)),
                                    ((T0, 5, False), 5, (T0, 5, False, None, None))):
            for handed in (list(values), tuple(values)):
                frame = entered((len(values), size, rows), 3, handed)
                self.assertEqual(repr(frame), repr((3, 0, slots, ())))

    def test_the_list_is_not_kept(self):
        values = [1, 2]
        frame = entered((2, 3, (("back",),)), 0, values)
        values[0] = 9
        values.append(5)
        self.assertEqual(frame, (0, 0, (1, 2, None), ()))
        self.assertEqual(values, [9, 2, 5])


class OwnDone(unittest.TestCase):
    def done(self, row, frame, due, things=THINGS):
        before = [tuple(thing) for thing in things]
        told = own_done(row, frame, things)
        self.assertEqual(repr(told), repr((due, None)), (row, frame))
        self.assertEqual(things, before)

    def with_rest(self, row, stack, due, more_at=1, slots=(1, None)):
        """With nothing below on the stack, and with other values."""
        for rest in ((), (99,), (T2, False, None, 5)):
            for at in (0, 6):
                self.done(row, (2, at, slots, rest + stack), (2, at + more_at, slots, rest + due))

    def test_push(self):
        for value in (0, 5, -7, 999999999, True, False):
            self.with_rest(("push", value), (), (value,))

    def test_load(self):
        slots = (5, True, T0, None)
        for slot, value in enumerate(slots):
            self.with_rest(("load", slot), (), (value,), slots=slots)

    def test_keep(self):
        for value in (4, False, T1):
            for rest in ((), (99,), (T2, False)):
                self.done(("keep", 0), (1, 3, (1, 2, None), rest + (value,)), (1, 4, (value, 2, None), rest))
                self.done(("keep", 1), (1, 3, (1, 2, None), rest + (value,)), (1, 4, (1, value, None), rest))
                self.done(("keep", 2), (1, 3, (1, 2, None), rest + (value,)), (1, 4, (1, 2, value), rest))
        self.done(("keep", 0), (0, 0, (None,), (5,)), (0, 1, (5,), ()))

    def test_drop(self):
        for value in (4, False, T1):
            self.with_rest(("drop",), (value,), ())

    def test_not(self):
        self.with_rest(("not",), (True,), (False,))
        self.with_rest(("not",), (False,), (True,))

    def test_skip(self):
        for over in (0, 1, 5, 200):
            self.with_rest(("skip", over), (), (), over + 1)

    def test_unless(self):
        for over in (0, 1, 5, 200):
            self.with_rest(("unless", over), (True,), ())
            self.with_rest(("unless", over), (False,), (), over + 1)

    def test_get(self):
        for thing, place, value in ((T0, 0, 7), (T0, 1, True), (T0, 2, T1), (T1, 0, T0), (T2, 0, 8), (T2, 1, False)):
            self.with_rest(("get", place), (thing,), (value,))
            self.done(("get", place), (0, 0, (), (5, thing)), (0, 1, (), (5, value)), NUMBERED)

    def test_numbers(self):
        for name, a, b, due in (
                ("add", 3, 4, 7), ("sub", 3, 4, -1), ("sub", 4, 3, 1), ("mul", 3, -4, -12), ("div", 13, 4, 3),
                ("div", -13, 4, -4), ("div", 13, -4, -4), ("div", -13, -4, 3), ("less", 3, 4, True), ("less", 4, 3, False),
                ("less", 3, 3, False), ("same", 3, 4, False), ("same", 4, 4, True), ("add", MOST - 1, 1, MOST),
                ("sub", 1 - MOST, 1, -MOST), ("mul", 10 ** 8, 10 ** 7, MOST), ("mul", MOST, -1, -MOST),
                ("div", -MOST, -1, MOST)):
            self.with_rest((name,), (a, b), (due,))

    def test_same_of_any_two_of_a_kind(self):
        for a, b, due in ((True, True, True), (False, False, True), (True, False, False), (T0, T0, True), (T0, T1, False),
                          (("thing", 12), ("thing", 12), True), (0, 0, True), (-1, 1, False)):
            self.with_rest(("same",), (a, b), (due,))

    def test_refusals(self):
        for name, a, b, refusal in (
                ("add", MOST, 1, GREAT), ("add", -MOST, -1, GREAT), ("sub", MOST, -1, GREAT), ("sub", -MOST, 1, GREAT),
                ("mul", MOST, 2, GREAT), ("mul", 7, -142857142857143, GREAT), ("div", 5, 0, NOUGHT), ("div", 0, 0, NOUGHT)):
            for rest in ((), (99,), (T2, False, 5)):
                frame = (2, 4, (1, None), rest + (a, b))
                self.assertEqual(repr(own_done((name,), frame, THINGS)), repr((frame, refusal)))

    def test_things_stay_as_they_are(self):
        things = [("box", (7, True, T1)), ("bag", (T0,))]
        for row, stack in ((("get", 0), (T0,)), (("push", 1), ()), (("same",), (T0, T1)), (("drop",), (T0,))):
            own_done(row, (0, 0, (), stack), things)
            self.assertEqual(things, [("box", (7, True, T1)), ("bag", (T0,))])


if __name__ == "__main__":
    unittest.main()
