"""Point 9 and the interface's part on houses: what a Hall tells."""

import unittest

from elderhouse.building import program_of
from elderhouse.houses import Hall
from elderhouse.names import need_names
from elderhouse.reading import read

# Elders stand behind their younger ones here: d of c of a, e of c, b of a; f has none.
TEXT = """
    house d of c { has dn number can w() number = 4 can own(x d, y number) d = self }
    house c of a { has cn truth has cm a can v(p truth) truth = p can w() number = 3 }
    house b of a { can u() b = self }
    house a { has an number has am a can w() number = 1 can v(q truth) truth = q can far(a number, b number) a = self }
    house e of c { }
    house f { has an truth can w(z f) f = z }
    main() number = 1
"""


def hall():
    program = read(TEXT)
    need_names(program)
    return Hall(program)


class HallCase(unittest.TestCase):
    def tells(self, told, due):
        self.assertEqual(told, due)
        self.assertIs(type(told), type(due))


class Houses(HallCase):
    def test_houses(self):
        self.tells(hall().houses(), ["d", "c", "b", "a", "e", "f"])
        self.tells(Hall(read("main() number = 1")).houses(), [])

    def test_elders(self):
        for house, due in (("d", ["c", "a"]), ("c", ["a"]), ("b", ["a"]), ("a", []), ("e", ["c", "a"]), ("f", [])):
            self.tells(hall().elders(house), due)

    def test_younger(self):
        for house, due in (("d", []), ("c", ["d", "e"]), ("b", []), ("a", ["d", "c", "b", "e"]), ("e", []), ("f", [])):
            self.tells(hall().younger(house), due)

    def test_twelve_in_a_row(self):
        text = " ".join("house h%d of h%d { has f%d number }" % (number, number - 1, number)
                        for number in range(11, 0, -1)) + " house h0 { has f0 number } main() number = 1"
        one = Hall(read(text))
        names = ["h%d" % number for number in range(12)]
        self.tells(one.houses(), names[::-1])
        for number in range(12):
            self.tells(one.elders(names[number]), names[:number][::-1])
            self.tells(one.younger(names[number]), names[number + 1:][::-1])
            self.tells(one.fields(names[number]), [("f%d" % at, "number") for at in range(number + 1)])


class Fields(HallCase):
    def test_of_the_farthest_elder_first(self):
        of_a = [("an", "number"), ("am", "a")]
        of_c = of_a + [("cn", "truth"), ("cm", "a")]
        for house, due in (("a", of_a), ("b", of_a), ("c", of_c), ("d", of_c + [("dn", "number")]), ("e", of_c),
                           ("f", [("an", "truth")])):
            self.tells(hall().fields(house), due)
            for pair in hall().fields(house):
                self.assertIs(type(pair), tuple)

    def test_none(self):
        self.tells(Hall(read("house a { } house b of a { } main() number = 1")).fields("b"), [])

    def test_places(self):
        for house in hall().houses():
            for number, pair in enumerate(hall().fields(house)):
                self.tells(hall().place(house, pair[0]), number)
        for house, field, due in (("a", "an", 0), ("a", "am", 1), ("d", "an", 0), ("d", "cn", 2), ("d", "cm", 3),
                                  ("d", "dn", 4), ("e", "cm", 3), ("f", "an", 0)):
            self.tells(hall().place(house, field), due)
        for house, field in (("a", "cn"), ("a", "dn"), ("b", "cn"), ("e", "dn"), ("f", "am"), ("a", "w"), ("a", "zz"),
                             ("a", "a")):
            self.assertIsNone(hall().place(house, field))


class Words(HallCase):
    def test_found(self):
        for house, word, due in (
                ("a", "w", ("a", 0)), ("a", "v", ("a", 1)), ("a", "far", ("a", 2)),
                ("b", "w", ("a", 0)), ("b", "u", ("b", 0)), ("b", "far", ("a", 2)),
                ("c", "w", ("c", 1)), ("c", "v", ("c", 0)), ("c", "far", ("a", 2)),
                ("d", "w", ("d", 0)), ("d", "own", ("d", 1)), ("d", "v", ("c", 0)), ("d", "far", ("a", 2)),
                ("e", "w", ("c", 1)), ("e", "v", ("c", 0)), ("e", "far", ("a", 2)), ("f", "w", ("f", 0))):
            self.tells(hall().found(house, word), due)
        for house, word in (("a", "own"), ("a", "u"), ("c", "own"), ("e", "own"), ("f", "far"), ("f", "v"), ("a", "an"),
                            ("a", "zz")):
            self.assertIsNone(hall().found(house, word))
            self.assertIsNone(hall().head(house, word))

    def test_head(self):
        far = ((("a", "number"), ("b", "number")), "a")
        for house, word, due in (
                ("a", "w", ((), "number")), ("a", "v", ((("q", "truth"),), "truth")), ("a", "far", far),
                ("b", "far", far), ("d", "far", far), ("c", "v", ((("p", "truth"),), "truth")),
                ("d", "v", ((("p", "truth"),), "truth")), ("d", "own", ((("x", "d"), ("y", "number")), "d")),
                ("b", "u", ((), "b")), ("f", "w", ((("z", "f"),), "f"))):
            self.tells(hall().head(house, word), due)

    def test_the_nearest_ones_head(self):
        one = Hall(read("house a { can w(x number) number = 1 } house b of a { can w() truth = yes } house c of b { }"
                        " main() number = 1"))
        self.assertEqual(one.head("c", "w"), ((), "truth"))
        self.assertEqual(one.head("a", "w"), ((("x", "number"),), "number"))

    def test_a_field_and_a_word_of_one_name(self):
        one = Hall(read("house a { has w number has v truth can v() number = 1 can w() truth = yes }"
                        " main() number = 1"))
        self.assertEqual((one.place("a", "w"), one.place("a", "v")), (0, 1))
        self.assertEqual((one.found("a", "w"), one.found("a", "v")), (("a", 1), ("a", 0)))
        self.assertEqual((one.head("a", "w"), one.head("a", "v")), (((), "truth"), ((), "number")))


class NothingIsShared(HallCase):
    def test_lists_that_were_told(self):
        one, other = hall(), hall()
        for ask in (lambda it: it.houses(), lambda it: it.elders("d"), lambda it: it.younger("a"),
                    lambda it: it.fields("d")):
            due = list(ask(other))
            kept = ask(one)
            told = ask(one)
            told.reverse()
            told.append("more")
            del told[0]
            self.assertEqual(kept, due)
            self.assertEqual(ask(one), due)
            self.assertEqual(ask(other), due)
        self.assertEqual(one.place("d", "cn"), 2)
        self.assertEqual(one.found("d", "far"), ("a", 2))
        self.assertEqual(one.elders("e"), ["c", "a"])

    def test_two_halls(self):
        one, other = hall(), Hall(read("house d { has q number can w() truth = no } main() number = 1"))
        self.assertEqual(one.elders("d"), ["c", "a"])
        self.assertEqual(other.elders("d"), [])
        self.assertEqual(one.fields("d")[0], ("an", "number"))
        self.assertEqual(other.fields("d"), [("q", "number")])
        self.assertEqual(other.houses(), ["d"])

    def test_the_program_stays(self):
        program = read(TEXT)
        plain = program.plain()
        one = Hall(program)
        for house in one.houses():
            one.fields(house).clear()
            one.younger(house)
            one.head(house, "w")
        program.bodies().clear()
        self.assertEqual(program.plain(), plain)
        self.assertEqual(len(one.fields("d")), 5)

    def test_built_or_read(self):
        one, other = Hall(program_of(read(TEXT).plain())), hall()
        for house in other.houses():
            self.assertEqual(one.fields(house), other.fields(house))
            self.assertEqual(one.head(house, "w"), other.head(house, "w"))


if __name__ == "__main__":
    unittest.main()
