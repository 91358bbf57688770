"""Point 24: calls for which only one place can be meant."""

import unittest

from samples import WRITTEN, programs

from elderhouse.houses import Hall
from elderhouse.making import compiled
from elderhouse.reading import read
from elderhouse.straight import meant, straightened
from elderhouse.tables import tables, word_names

# Blocks: d.w 0, b.v 1, a.w 2, a.v 3, a.u 4, c.w 5, c.z 6, e.w 7.
TEXT = """
    house d of b { can w() number = 4 }
    house b of a { can v() number = 2 }
    house a { can w() number = 1 can v() number = 1 can u() number = self.w() + self.v() + self.u() }
    house c of a { can w() number = 3 can z() number = self.w() + self.v() + elder.w() }
    house e { can w() number = 5 }
    main(n number) number = %s
"""


class Meant(unittest.TestCase):
    def test_written_out(self):
        program = read(TEXT % "1")
        for kind, word, due in (
                ("a", "w", [0, 2, 5]), ("a", "v", [1, 3]), ("a", "u", [4]), ("b", "w", [0, 2]), ("b", "v", [1]),
                ("b", "u", [4]), ("c", "w", [5]), ("c", "v", [3]), ("c", "u", [4]), ("c", "z", [6]), ("d", "w", [0]),
                ("d", "v", [1]), ("d", "u", [4]), ("e", "w", [7])):
            told = meant(program, kind, word)
            self.assertEqual(told, due, (kind, word))
            self.assertIs(type(told), list)

    def test_each_once_and_rising(self):
        program = read("house f of a { can w() number = 6 } house b of a { } house c of a { } house d of b { can w()"
                       " number = 4 } house a { can w() number = 1 } main() number = 1")
        self.assertEqual(meant(program, "a", "w"), [0, 1, 2])
        self.assertEqual(meant(program, "b", "w"), [1, 2])
        self.assertEqual(meant(program, "c", "w"), [2])

    def test_many_programs(self):
        for program, _ in programs(120):
            hall, names, words = Hall(program), word_names(program), tables(program)
            for kind in hall.houses():
                for word in names:
                    if hall.found(kind, word) is not None:
                        due = {words[hall.houses().index(house)][names.index(word)]
                               for house in [kind] + hall.younger(kind)}
                        self.assertEqual(meant(program, kind, word), sorted(due))

    def test_what_is_told_is_the_askers_own(self):
        program = read(TEXT % "1")
        meant(program, "a", "w").clear()
        self.assertEqual(meant(program, "a", "w"), [0, 2, 5])


class Straightened(unittest.TestCase):
    def rows(self, term):
        program = read(TEXT % term)
        blocks = compiled(program)
        kept = list(blocks)
        told = straightened(program, blocks)
        self.assertEqual(blocks, kept)
        self.assertIs(type(told), list)
        return blocks[-1], told[-1]

    def test_just_the_rows_that_are_due(self):
        before, told = self.rows("let t = new a() in t.w() + t.u() + (if n < 1 then new b() else new d()).v()"
                                 " + new e().w() + new c().z() + new b().w()")
        self.assertEqual(before[2], (
            ("make", 2, 0), ("keep", 1), ("load", 1), ("call", 5, 0, 1), ("load", 1), ("call", 6, 2, 1), ("add",),
            ("load", 0), ("push", 1), ("less",), ("unless", 2), ("make", 1, 0), ("skip", 1), ("make", 0, 0),
            ("call", 7, 1, 1), ("add",), ("make", 4, 0), ("call", 8, 0, 1), ("add",), ("make", 3, 0), ("call", 9, 3, 1),
            ("add",), ("make", 1, 0), ("call", 10, 0, 1), ("add",), ("back",)))
        due = list(before[2])
        due[5], due[14], due[17], due[20] = ("straight", 4, 1), ("straight", 1, 1), ("straight", 7, 1), ("straight", 6, 1)
        self.assertEqual(told, (before[0], before[1], tuple(due)))

    def test_calls_of_self(self):
        program = read(TEXT % "1")
        blocks = compiled(program)
        told = straightened(program, blocks)
        self.assertEqual(blocks[4][2], (("load", 0), ("call", 0, 0, 1), ("load", 0), ("call", 1, 1, 1), ("add",),
                                        ("load", 0), ("call", 2, 2, 1), ("add",), ("back",)))
        self.assertEqual(told[4], (1, 1, (("load", 0), ("call", 0, 0, 1), ("load", 0), ("call", 1, 1, 1), ("add",),
                                          ("load", 0), ("straight", 4, 1), ("add",), ("back",))))
        self.assertEqual(told[6], (1, 1, (("load", 0), ("straight", 5, 1), ("load", 0), ("straight", 3, 1), ("add",),
                                          ("load", 0), ("straight", 2, 1), ("add",), ("back",))))
        for number in (0, 1, 2, 3, 5, 7, 8):
            self.assertEqual(told[number], blocks[number])

    def test_many_stays(self):
        program = read("house a { can w(x number, y number) number = x } main() number = new a().w(1, 2)")
        self.assertEqual(straightened(program, compiled(program))[-1][2],
                         (("make", 0, 0), ("push", 1), ("push", 2), ("straight", 0, 3), ("back",)))

    def test_no_number_of_a_site_changes(self):
        for program in [read(text) for text, _ in WRITTEN] + [program for program, _ in programs(120)]:
            blocks = compiled(program)
            kept = list(blocks)
            told = straightened(program, blocks)
            self.assertEqual(blocks, kept)
            self.assertEqual(len(told), len(blocks))
            for one, other in zip(blocks, told):
                self.assertEqual((one[:2], len(one[2])), (other[:2], len(other[2])))
                self.assertIs(type(other), tuple)
                self.assertIs(type(other[2]), tuple)
                for row, changed in zip(one[2], other[2]):
                    if row != changed:
                        self.assertEqual((row[0], changed[0], changed[2]), ("call", "straight", row[3]))

    def test_what_is_told_is_the_askers_own(self):
        program = read(TEXT % "new c().w()")
        blocks = compiled(program)
        told = straightened(program, blocks)
        told.clear()
        self.assertEqual(len(blocks), 9)
        self.assertEqual(len(straightened(program, blocks)), 9)


if __name__ == "__main__":
    unittest.main()
