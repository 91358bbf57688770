"""Point 13 and the interface's part on numbers."""

import unittest

from elderhouse.numbers import GREATEST, two_told

GREAT = ("refused", "great")
NOUGHT = ("refused", "nought")
MOST = 10 ** 15


class TwoTold(unittest.TestCase):
    def tells(self, sign, a, b, due):
        told = two_told(sign, a, b)
        self.assertEqual(repr(told), repr(due), (sign, a, b))

    def value(self, sign, a, b, due):
        self.tells(sign, a, b, ("value", due))

    def test_greatest(self):
        self.assertEqual(repr(GREATEST), "1000000000000000")

    def test_each_sign(self):
        self.value("+", 3, 4, 7)
        self.value("-", 3, 4, -1)
        self.value("*", 3, -4, -12)
        self.value("/", 13, 4, 3)
        self.value("<", 3, 4, True)
        self.value("=", 3, 4, False)

    def test_bounds_of_plus(self):
        self.value("+", MOST, 0, MOST)
        self.value("+", MOST - 1, 1, MOST)
        self.value("+", MOST, -1, MOST - 1)
        self.value("+", -MOST, 0, -MOST)
        self.value("+", 1 - MOST, -1, -MOST)
        self.value("+", MOST, -MOST, 0)
        for a, b in ((MOST, 1), (1, MOST), (MOST, MOST), (-MOST, -1), (-1, -MOST), (-MOST, -MOST)):
            self.tells("+", a, b, GREAT)

    def test_bounds_of_minus(self):
        self.value("-", MOST, 0, MOST)
        self.value("-", MOST - 1, -1, MOST)
        self.value("-", 0, MOST, -MOST)
        self.value("-", 1 - MOST, 1, -MOST)
        self.value("-", MOST, MOST, 0)
        for a, b in ((MOST, -1), (1, -MOST), (MOST, -MOST), (-MOST, 1), (-1, MOST), (-MOST, MOST)):
            self.tells("-", a, b, GREAT)

    def test_bounds_of_times(self):
        self.value("*", MOST, 1, MOST)
        self.value("*", MOST, -1, -MOST)
        self.value("*", -MOST, -1, MOST)
        self.value("*", 10 ** 7, 10 ** 8, MOST)
        self.value("*", -10 ** 7, 10 ** 8, -MOST)
        self.value("*", MOST, 0, 0)
        # The first whole numbers beyond either way.
        self.assertEqual(7 * 142857142857143, MOST + 1)
        for a, b in ((7, 142857142857143), (-7, 142857142857143), (7, -142857142857143), (-7, -142857142857143),
                     (MOST, 2), (MOST, -2), (MOST, MOST), (-MOST, MOST), (-MOST, -MOST)):
            self.tells("*", a, b, GREAT)

    def test_division(self):
        self.value("/", 7, 2, 3)
        self.value("/", -7, 2, -4)
        self.value("/", 7, -2, -4)
        self.value("/", -7, -2, 3)
        self.value("/", 8, 2, 4)
        self.value("/", -8, 2, -4)
        self.value("/", 8, -2, -4)
        self.value("/", -8, -2, 4)
        self.value("/", 1, 2, 0)
        self.value("/", -1, 2, -1)
        self.value("/", 1, -2, -1)
        self.value("/", -1, -2, 0)
        self.value("/", 0, 5, 0)
        self.value("/", 0, -5, 0)
        self.value("/", MOST, 1, MOST)
        self.value("/", -MOST, -1, MOST)
        self.value("/", MOST, -1, -MOST)
        self.value("/", 1, MOST, 0)
        self.value("/", -1, MOST, -1)
        self.value("/", MOST - 1, MOST, 0)
        self.value("/", 999999999999999, 3, 333333333333333)
        # Beyond what a fraction of the machine's own could tell.
        self.value("/", MOST - 1, 7, 142857142857142)

    def test_division_is_the_greatest_that_is_no_more(self):
        for a in range(-12, 13):
            for b in list(range(-5, 0)) + list(range(1, 6)):
                told = two_told("/", a, b)[1]
                rest = a - told * b
                self.assertTrue(0 <= rest < b or b < rest <= 0, (a, b, told))

    def test_by_nought(self):
        for a in (0, 1, -1, 7, MOST, -MOST):
            self.tells("/", a, 0, NOUGHT)

    def test_less_and_same(self):
        for a in (-MOST, -2, -1, 0, 1, 2, MOST):
            for b in (-MOST, -2, -1, 0, 1, 2, MOST):
                self.value("<", a, b, a - b < 0)
                self.value("=", a, b, a - b == 0)


if __name__ == "__main__":
    unittest.main()
