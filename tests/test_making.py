"""Points 17 to 19: the blocks of a program."""

import unittest

from samples import WRITTEN, programs

from elderhouse.checking import kinds_of
from elderhouse.making import compiled
from elderhouse.names import need_names
from elderhouse.reading import read

HOUSES = """
    house b of a { has m number has o a can v(x number) number = x can w() number = 2 }
    house a { has n number has t truth can w() number = 1 can u(x number, y truth, z a) a = self }
    house c { has q b has r number can v(x number) number = x }
"""


class MakingCase(unittest.TestCase):
    def blocks(self, text):
        program = read(text)
        need_names(program)
        kinds_of(program)
        plain = program.plain()
        told = compiled(program)
        self.assertEqual(program.plain(), plain)
        self.assertIs(type(told), list)
        for block in told:
            self.assertIs(type(block), tuple)
            self.assertIs(type(block[2]), tuple)
            for row in block[2]:
                self.assertIs(type(row), tuple)
        return told

    def main(self, term, rows, size=2, kind="number", houses=HOUSES, params="p number, q number"):
        block = self.blocks(houses + " main(" + params + ") " + kind + " = " + term)[-1]
        many = params.count("number")
        self.assertEqual(repr(block), repr((many, size, tuple(rows) + (("back",),))), term)

    def word(self, term, rows, size=3, kind="number", of="a"):
        """In a word of a house with two params, behind all other houses."""
        text = (HOUSES + " house z of " + of + " { can mine(p number, q truth) " + kind + " = " + term + " }"
                " main() number = 1")
        block = self.blocks(text)[-2]
        self.assertEqual(repr(block), repr((3, size, tuple(rows) + (("back",),))), term)


class EachForm(MakingCase):
    def test_numbers_truths_names_self(self):
        self.main("5", [("push", 5)])
        self.main("yes", [("push", True)], kind="truth")
        self.main("no", [("push", False)], kind="truth")
        self.main("p", [("load", 0)])
        self.main("q", [("load", 1)])
        self.word("p", [("load", 1)])
        self.word("q", [("load", 2)], kind="truth")
        self.word("self", [("load", 0)], kind="z")

    def test_two(self):
        for sign, row in (("+", "add"), ("-", "sub"), ("*", "mul"), ("/", "div")):
            self.main("p %s 7" % sign, [("load", 0), ("push", 7), (row,)])
        self.main("p < q", [("load", 0), ("load", 1), ("less",)], kind="truth")
        self.main("p = q", [("load", 0), ("load", 1), ("same",)], kind="truth")
        self.main("yes = no", [("push", True), ("push", False), ("same",)], kind="truth")
        self.main("p ; q", [("load", 0), ("drop",), ("load", 1)])
        self.main("1 ; 2 ; 3", [("push", 1), ("drop",), ("push", 2), ("drop",), ("push", 3)])
        self.main("1 + 2 * 3 - 4", [("push", 1), ("push", 2), ("push", 3), ("mul",), ("add",), ("push", 4), ("sub",)])

    def test_not(self):
        self.main("not yes", [("push", True), ("not",)], kind="truth")
        self.main("not not yes", [("push", True), ("not",), ("not",)], kind="truth")

    def test_new(self):
        self.main("new a(p, yes)", [("load", 0), ("push", True), ("make", 1, 2)], kind="a")
        self.main("new b(1, yes, 2, new a(3, no))",
                  [("push", 1), ("push", True), ("push", 2), ("push", 3), ("push", False), ("make", 1, 2), ("make", 0, 4)],
                  kind="b")
        self.main("new e()", [("make", 3, 0)], kind="e", houses=HOUSES + " house e { }")

    def test_if(self):
        self.main("if yes then 1 else 2", [("push", True), ("unless", 2), ("push", 1), ("skip", 1), ("push", 2)])
        self.main("if p < q then p + 1 else q * 2 + 3",
                  [("load", 0), ("load", 1), ("less",), ("unless", 4), ("load", 0), ("push", 1), ("add",), ("skip", 5),
                   ("load", 1), ("push", 2), ("mul",), ("push", 3), ("add",)])

    def test_ifs_within_ifs(self):
        self.main(
            "if (if yes then no else yes) then (if no then 1 else 2) else (if yes then 3 else (4 ; 5))",
            [("push", True), ("unless", 2), ("push", False), ("skip", 1), ("push", True),
             ("unless", 6), ("push", False), ("unless", 2), ("push", 1), ("skip", 1), ("push", 2),
             ("skip", 7), ("push", True), ("unless", 2), ("push", 3), ("skip", 3), ("push", 4), ("drop",), ("push", 5)])

    def test_fields(self):
        made = [("push", 1), ("push", True), ("make", 1, 2)]
        self.main("new a(1, yes).n", made + [("get", 0)])
        self.main("new a(1, yes).t", made + [("get", 1)], kind="truth")
        more = [("push", 1), ("push", True), ("push", 2)] + made + [("make", 0, 4)]
        for field, place in (("n", 0), ("m", 2)):
            self.main("new b(1, yes, 2, new a(1, yes))." + field, more + [("get", place)])
        self.main("new b(1, yes, 2, new a(1, yes)).o.n", more + [("get", 3), ("get", 0)])
        self.main("new c(new b(1, yes, 2, new a(1, yes)), 3).q.o.n",
                  more + [("push", 3), ("make", 2, 2), ("get", 0), ("get", 3), ("get", 0)])

    def test_places_are_by_the_kinds_of_the_terms(self):
        # Both houses have a field n, at other places.
        houses = "house a { has x number has n number } house b { has n number has y number } "
        self.main("let t = new a(1, 2) in let u = new b(3, 4) in t.n + u.n",
                  [("push", 1), ("push", 2), ("make", 0, 2), ("keep", 2), ("push", 3), ("push", 4), ("make", 1, 2),
                   ("keep", 3), ("load", 2), ("get", 1), ("load", 3), ("get", 0), ("add",)], 4, houses=houses)
        self.main("let t = new a(1, 2) in (let t = new b(3, 4) in t.n) ; set t.n = 5",
                  [("push", 1), ("push", 2), ("make", 0, 2), ("keep", 2), ("push", 3), ("push", 4), ("make", 1, 2),
                   ("keep", 3), ("load", 3), ("get", 0), ("drop",), ("load", 2), ("push", 5), ("put", 1)], 4,
                  houses=houses)

    def test_set(self):
        made = [("push", 1), ("push", True), ("make", 1, 2)]
        self.main("set new a(1, yes).n = p", made + [("load", 0), ("put", 0)])
        self.main("set new a(1, yes).t = no", made + [("push", False), ("put", 1)], kind="truth")
        self.word("set self.n = p", [("load", 0), ("load", 1), ("put", 0)])
        self.word("set self.o = self", [("load", 0), ("load", 0), ("put", 3)], kind="a", of="b")
        self.word("set self.o.n = 1", [("load", 0), ("get", 3), ("push", 1), ("put", 0)], of="b")

    def test_call(self):
        made = [("push", 1), ("push", True), ("make", 1, 2)]
        self.main("new a(1, yes).w()", made + [("call", 0, 1, 1)])
        self.main("new a(1, yes).u(p, no, new a(1, yes)).w()",
                  made + [("load", 0), ("push", False)] + made + [("call", 0, 2, 4), ("call", 1, 1, 1)])

    def test_the_elders_call(self):
        self.word("elder.w()", [("load", 0), ("straight", 2, 1)])
        self.word("elder.w()", [("load", 0), ("straight", 1, 1)], of="b")
        self.word("elder.v(p)", [("load", 0), ("load", 1), ("straight", 0, 2)], of="b")
        self.word("elder.u(p, q, self)", [("load", 0), ("load", 1), ("load", 2), ("load", 0), ("straight", 3, 4)], kind="a")
        self.word("elder.u(p, q, self)", [("load", 0), ("load", 1), ("load", 2), ("load", 0), ("straight", 3, 4)],
                  kind="a", of="b")
        blocks = self.blocks("house a { can w() number = 1 } house b of a { can w() number = elder.w() } house c of b { }"
                             " house d of c { can v() number = elder.w() can w() number = elder.w() } main() number = 1")
        self.assertEqual([block[2][1] for block in blocks[1:4]], [("straight", 0, 1), ("straight", 1, 1), ("straight", 1, 1)])
        self.word("1 + elder.w()", [("push", 1), ("load", 0), ("straight", 2, 1), ("add",)])


class Slots(MakingCase):
    def test_many_and_size_without_lets(self):
        blocks = self.blocks("house a { can w() number = 1 can v(x number) number = 1 can u(x number, y truth, z a, v a)"
                             " number = 1 } main() number = 1")
        self.assertEqual([block[:2] for block in blocks], [(1, 1), (2, 2), (5, 5), (0, 0)])
        self.assertEqual(self.blocks("main(a number, b number, c number, d number) number = 1")[0][:2], (4, 4))

    def test_one_let(self):
        self.main("let x = 1 in x", [("push", 1), ("keep", 0), ("load", 0)], 1, params="")
        self.main("let x = 1 in x", [("push", 1), ("keep", 2), ("load", 2)], 3)
        self.word("let x = 1 in x", [("push", 1), ("keep", 3), ("load", 3)], 4)
        self.main("let x = 1 in 2", [("push", 1), ("keep", 2), ("push", 2)], 3)

    def test_lets_in_one_anothers_last_terms(self):
        self.main("let x = 1 in let y = 2 in let z = 3 in x + y + z",
                  [("push", 1), ("keep", 2), ("push", 2), ("keep", 3), ("push", 3), ("keep", 4), ("load", 2), ("load", 3),
                   ("add",), ("load", 4), ("add",)], 5)

    def test_a_let_in_anothers_first_term(self):
        self.main("let x = (let y = 1 in y) in x",
                  [("push", 1), ("keep", 2), ("load", 2), ("keep", 2), ("load", 2)], 3)
        self.main("let x = (let y = 1 in let z = 2 in z) in x",
                  [("push", 1), ("keep", 2), ("push", 2), ("keep", 3), ("load", 3), ("keep", 2), ("load", 2)], 4)

    def test_lets_beside_one_another(self):
        self.main("(let x = 1 in x) + (let y = 2 in y)",
                  [("push", 1), ("keep", 2), ("load", 2), ("push", 2), ("keep", 2), ("load", 2), ("add",)], 3)
        self.main("let z = 5 in (let x = 1 in x) + (let y = 2 in y + z)",
                  [("push", 5), ("keep", 2), ("push", 1), ("keep", 3), ("load", 3), ("push", 2), ("keep", 3), ("load", 3),
                   ("load", 2), ("add",), ("add",)], 4)

    def test_in_terms_of_calls_and_ifs(self):
        self.word("self.w() + if q then (let x = p in x) else (let y = 2 in let z = 3 in z + y)",
                  [("load", 0), ("call", 0, 1, 1), ("load", 2), ("unless", 4), ("load", 1), ("keep", 3), ("load", 3),
                   ("skip", 7), ("push", 2), ("keep", 3), ("push", 3), ("keep", 4), ("load", 4), ("load", 3), ("add",),
                   ("add",)], 5)
        self.main("new a(let x = 1 in x, let y = yes in y)",
                  [("push", 1), ("keep", 2), ("load", 2), ("push", True), ("keep", 2), ("load", 2), ("make", 1, 2)], 3, "a")

    def test_an_inner_name_hides_an_outer_one(self):
        self.main("let p = p + 1 in p", [("load", 0), ("push", 1), ("add",), ("keep", 2), ("load", 2)], 3)
        self.main("let x = 1 in let x = x in x",
                  [("push", 1), ("keep", 2), ("load", 2), ("keep", 3), ("load", 3)], 4)
        self.main("let x = 1 in (let x = 2 in x) + x",
                  [("push", 1), ("keep", 2), ("push", 2), ("keep", 3), ("load", 3), ("load", 2), ("add",)], 4)

    def test_the_most_at_any_place(self):
        # The deepest lets stand in a part that is neither first nor last.
        self.main("1 + (let x = 1 in let y = 2 in 3) * 4 + (let z = 5 in 6)",
                  [("push", 1), ("push", 1), ("keep", 2), ("push", 2), ("keep", 3), ("push", 3), ("push", 4), ("mul",),
                   ("add",), ("push", 5), ("keep", 2), ("push", 6), ("add",)], 4)


class Blocks(MakingCase):
    def test_house_by_house_main_last(self):
        blocks = self.blocks("house a { can w() number = 1 can v() number = 2 } house b { } house c of a {"
                             " can v() number = 3 can u() number = 4 } main() number = 5")
        self.assertEqual([block[2][0] for block in blocks], [("push", number) for number in range(1, 6)])
        for block in blocks:
            self.assertEqual(block[2][1:], (("back",),))

    def test_no_houses(self):
        self.assertEqual(self.blocks("main() number = 1"), [(0, 0, (("push", 1), ("back",)))])

    def test_back_at_the_end_alone(self):
        for text, _ in WRITTEN:
            for block in self.blocks(text):
                self.assertEqual([row for row in block[2] if row == ("back",)], [("back",)])
                self.assertEqual(block[2][-1], ("back",))

    def test_sites_through_all_blocks(self):
        blocks = self.blocks("house a { can w() number = 1 can v(x number) number = self.v(self.w()) + self.w() }"
                             " house b of a { can w() number = self.v(1) + elder.w() }"
                             " main() number = new a().v(new b().w() + new a().w()) ; new a().w()")
        sites = [[row[1] for row in block[2] if row[0] == "call"] for block in blocks]
        self.assertEqual(sites, [[], [0, 1, 2], [3], [4, 5, 6, 7]])
        rows = [row for block in blocks for row in block[2] if row[0] == "call"]
        self.assertEqual(rows, [("call", 0, 0, 1), ("call", 1, 1, 2), ("call", 2, 0, 1), ("call", 3, 1, 2),
                                ("call", 4, 0, 1), ("call", 5, 0, 1), ("call", 6, 1, 2), ("call", 7, 0, 1)])

    def test_sites_of_ifs_and_lets(self):
        block = self.blocks("house a { can w() truth = yes can n() number = 1 } main() number = let t = new a() in"
                            " let x = t.w() in if t.w() then t.n() else t.n() + t.n()")[-1]
        self.assertEqual([row for row in block[2] if row[0] == "call"],
                         [("call", 0, 0, 1), ("call", 1, 0, 1), ("call", 2, 1, 1), ("call", 3, 1, 1), ("call", 4, 1, 1)])

    def test_numbers_of_houses_and_words(self):
        # Words: v of b first, then w, then u; houses as they stand.
        blocks = self.blocks(HOUSES + " main() number = let t = new a(1, yes) in t.w() + t.u(1, no, t).w()"
                             " + new c(new b(1, yes, 2, t), 3).v(4)")
        self.assertEqual([row for row in blocks[-1][2] if row[0] in ("make", "call")],
                         [("make", 1, 2), ("call", 0, 1, 1), ("call", 1, 2, 4), ("call", 2, 1, 1), ("make", 0, 4),
                          ("make", 2, 2), ("call", 3, 0, 2)])

    def test_many_programs(self):
        for program, _ in programs(150):
            blocks = compiled(program)
            self.assertEqual(len(blocks), len(program.bodies()))
            sites = [row[1] for block in blocks for row in block[2] if row[0] == "call"]
            self.assertEqual(sites, list(range(len(sites))))
            for many, size, rows in blocks:
                slots = [row[1] for row in rows if row[0] in ("load", "keep")]
                self.assertLess(max(slots + [-1]), size or 1)
                self.assertEqual(size, max([many] + [row[1] + 1 for row in rows if row[0] == "keep"]))

    def test_what_is_told_is_the_askers_own(self):
        program = read(HOUSES + " main() number = 1")
        one, other = compiled(program), compiled(program)
        one.clear()
        self.assertEqual(len(other), 6)
        self.assertEqual(compiled(program), other)


if __name__ == "__main__":
    unittest.main()
