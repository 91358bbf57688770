"""Point 10: which kind fits which, and which is the nearest of two."""

import unittest

from elderhouse.houses import Hall
from elderhouse.kinds import fits, nearest
from elderhouse.reading import read

# a above b and c; b above d and e; d above f; g above h, apart.
TEXT = """
    house f of d { } house d of b { } house e of b { } house b of a { } house c of a { } house a { }
    house h of g { } house g { }
    main() number = 1
"""
ELDERS = {"a": "", "b": "a", "c": "a", "d": "ba", "e": "ba", "f": "dba", "g": "", "h": "g"}
KINDS = ["number", "truth"] + sorted(ELDERS)


def above(kind):
    return [kind] + list(ELDERS.get(kind, ""))


class Kinds(unittest.TestCase):
    def setUp(self):
        self.hall = Hall(read(TEXT))

    def test_fits_written_out(self):
        for one, other, due in (
                ("number", "number", True), ("truth", "truth", True), ("number", "truth", False),
                ("truth", "number", False), ("number", "a", False), ("a", "number", False), ("truth", "a", False),
                ("a", "truth", False), ("a", "a", True), ("b", "a", True), ("a", "b", False), ("f", "a", True),
                ("f", "b", True), ("f", "d", True), ("f", "e", False), ("d", "e", False), ("e", "d", False),
                ("b", "c", False), ("h", "g", True), ("h", "a", False), ("a", "g", False), ("f", "g", False)):
            self.assertIs(fits(self.hall, one, other), due, (one, other))

    def test_fits_of_all(self):
        for one in KINDS:
            for other in KINDS:
                self.assertIs(fits(self.hall, one, other), other in above(one), (one, other))

    def test_nearest_written_out(self):
        for one, other, due in (
                ("number", "number", "number"), ("truth", "truth", "truth"), ("number", "truth", None),
                ("truth", "number", None), ("number", "a", None), ("a", "number", None), ("f", "truth", None),
                ("truth", "f", None), ("a", "a", "a"), ("f", "f", "f"), ("a", "b", "a"), ("b", "a", "a"),
                ("f", "a", "a"), ("a", "f", "a"), ("b", "c", "a"), ("c", "b", "a"), ("d", "e", "b"), ("e", "d", "b"),
                ("f", "e", "b"), ("e", "f", "b"), ("f", "c", "a"), ("c", "f", "a"), ("f", "d", "d"), ("d", "f", "d"),
                ("a", "g", None), ("g", "a", None), ("h", "f", None), ("h", "g", "g"), ("g", "h", "g")):
            self.assertEqual(nearest(self.hall, one, other), due, (one, other))

    def test_nearest_of_all(self):
        for one in KINDS:
            for other in KINDS:
                both = [kind for kind in KINDS if kind in above(one) and kind in above(other)]
                due = [kind for kind in both if all(each in above(kind) for each in both)]
                self.assertEqual([nearest(self.hall, one, other)], due or [None], (one, other))

    def test_asking_changes_nothing(self):
        for _ in range(2):
            self.assertEqual(nearest(self.hall, "f", "e"), "b")
            self.assertEqual(self.hall.elders("f"), ["d", "b", "a"])
            self.assertIs(fits(self.hall, "f", "a"), True)


if __name__ == "__main__":
    unittest.main()
