"""Point 8: which names are let by, and which refusal is told first."""

import itertools
import unittest

from elderhouse.building import program_of
from elderhouse.errors import BadName
from elderhouse.names import need_names
from elderhouse.reading import read

MAIN = " main() number = 1"


class NamesCase(unittest.TestCase):
    def good(self, text):
        self.assertIsNone(need_names(read(text)), text)

    def bad(self, text, word):
        self.bad_program(read(text), word)

    def bad_program(self, program, word):
        plain = program.plain()
        with self.assertRaises(BadName, msg=plain) as caught:
            need_names(program)
        self.assertEqual(caught.exception.word, word, plain)
        self.assertEqual(program.plain(), plain)


class HousesNames(NamesCase):
    def test_a_name_of_an_earlier_house(self):
        self.good("house a { } house b { } house c { }" + MAIN)
        self.bad("house a { } house a { }" + MAIN, "a")
        self.bad("house a { } house b { } house a { }" + MAIN, "a")
        self.bad("house a { } house b { } house c { } house c { } house b { } house a { }" + MAIN, "c")

    def test_an_elder_that_is_no_house(self):
        self.good("house a { } house b of a { }" + MAIN)
        self.good("house b of a { } house a { }" + MAIN)
        self.bad("house a of z { }" + MAIN, "z")
        self.bad("house a { } house b of a { } house c of y { } house d of z { }" + MAIN, "y")

    def test_rings(self):
        self.bad("house a of a { }" + MAIN, "a")
        self.bad("house a of b { } house b of a { }" + MAIN, "a")
        self.bad("house b of a { } house a of b { }" + MAIN, "b")
        for names in itertools.permutations("abc"):
            one, other, third = names
            self.bad("house %s of %s { } house %s of %s { } house %s of %s { }"
                     % (one, other, other, third, third, one) + MAIN, one)
            self.bad("house %s of %s { } house %s of %s { } house %s of %s { }"
                     % (other, third, one, other, third, one) + MAIN, other)

    def test_elders_that_lead_into_a_ring(self):
        self.bad("house a of b { } house b of b { }" + MAIN, "b")
        self.bad("house a of b { } house b of c { } house c of b { }" + MAIN, "b")
        self.bad("house d of c { } house c of a { } house a of b { } house b of a { }" + MAIN, "a")
        self.bad("house e { } house d of c { } house c of b { } house b of a { } house a of b { }" + MAIN, "b")

    def test_long_rows_of_elders(self):
        self.good(" ".join("house h%d of h%d { }" % (number, number + 1) for number in range(11))
                  + " house h11 { }" + MAIN)
        self.bad(" ".join("house h%d of h%d { }" % (number, number + 1) for number in range(11))
                 + " house h11 of h0 { }" + MAIN, "h0")
        self.bad(" ".join("house h%d of h%d { }" % (number, number + 1) for number in range(11))
                 + " house h11 of h11 { }" + MAIN, "h11")
        self.good(" ".join("house h%d of h0 { }" % number for number in range(1, 12)) + " house h0 { }" + MAIN)


class FieldsAndHeadings(NamesCase):
    def test_fields_of_one_house(self):
        self.good("house a { has n number has m number has o truth has p a }" + MAIN)
        self.bad("house a { has n number has n number }" + MAIN, "n")
        self.bad("house a { has n number has m truth has o a has m number }" + MAIN, "m")

    def test_fields_of_elders(self):
        self.bad("house a { has n number } house b of a { has n number }" + MAIN, "n")
        self.bad("house b of a { has n truth } house a { has n number }" + MAIN, "n")
        self.bad("house a { has n number } house b of a { } house c of b { } house d of c { has m truth has n truth }"
                 + MAIN, "n")
        self.bad("house d of c { has n truth } house c of b { } house b of a { } house a { has n number }" + MAIN, "n")

    def test_fields_of_younger_and_other_houses(self):
        self.good("house a { has n number } house b { has n number }" + MAIN)
        self.good("house z { } house a of z { has n number } house b of z { has n number }" + MAIN)
        self.bad("house a { has n number } house b of a { has n number } house c of b { has n number }" + MAIN, "n")

    def test_a_fields_kind(self):
        self.good("house a { has n number has t truth has o a has p b } house b { }" + MAIN)
        self.bad("house a { has n z }" + MAIN, "z")
        self.bad("house a { has n number has m y has o z }" + MAIN, "y")
        self.bad("house a { has n m has m number }" + MAIN, "m")
        self.bad("house a { has n numbers }" + MAIN, "numbers")

    def test_words_of_one_house(self):
        self.good("house a { can w() number = 1 can v() number = 1 }" + MAIN)
        self.bad("house a { can w() number = 1 can w() number = 1 }" + MAIN, "w")
        self.bad("house a { can w() number = 1 can v() number = 1 can w(x number) truth = 1 }" + MAIN, "w")

    def test_words_of_elders_others_and_fields(self):
        self.good("house a { can w() number = 1 } house b of a { can w() number = 1 }" + MAIN)
        self.good("house a { can w() number = 1 } house b { can w() truth = yes }" + MAIN)
        self.good("house a { has w number can w() number = 1 } house b of a { can v() number = 1 }" + MAIN)
        self.good("house a { has w number } house w of a { can w() number = 1 }" + MAIN)

    def test_params(self):
        self.good("house a { can w(x number, y truth, z a, w a) number = 1 can v(x number) number = 1 }" + MAIN)
        self.bad("house a { can w(x number, x number) number = 1 }" + MAIN, "x")
        self.bad("house a { can w(x number, y number, z truth, y a) number = 1 }" + MAIN, "y")
        self.bad("house a { can w(x z) number = 1 }" + MAIN, "z")
        self.bad("house a { can w(x number, y z) number = 1 }" + MAIN, "z")
        self.good("house a { has x number can x(x number) a = self }" + MAIN)

    def test_a_words_kind(self):
        self.good("house a { can w() truth = 1 can v() a = 1 can u() b = 1 } house b { }" + MAIN)
        self.bad("house a { can w() z = 1 }" + MAIN, "z")

    def test_main(self):
        self.good("house a { } main(x number, y number) a = 1")
        self.bad("main(x number, x number) number = 1", "x")
        self.bad("main(x number, y number, z number, y number) number = 1", "y")
        self.bad("main() z = 1", "z")
        self.bad_program(program_of(((), ((("x", "z"),), "number", ("number", 1)))), "z")
        self.bad_program(program_of(((), ((("x", "y"), ("y", "z")), "w", ("number", 1)))), "y")


class Bodies(NamesCase):
    def in_main(self, term, word=None):
        text = "house a { } house b of a { } main(p number, q number) number = " + term
        if word is None:
            self.good(text)
        else:
            self.bad(text, word)

    def in_word(self, term, word=None, elder=" of a"):
        text = "house a { } house b" + elder + " { can w(p number, q truth) number = " + term + " }" + MAIN
        if word is None:
            self.good(text)
        else:
            self.bad(text, word)

    def test_params_are_bound(self):
        for check in (self.in_main, self.in_word):
            check("p")
            check("p + q * p")
            check("x", "x")
            check("w", "w")
            check("p + x", "x")
        self.bad("house a { can w(p number) number = 1 can v() number = p }" + MAIN, "p")
        self.bad("house a { can w(p number) number = 1 } main() number = p", "p")
        self.bad("house a { can w() number = p } main(p number) number = 1", "p")
        self.bad("house a { has n number can w() number = n }" + MAIN, "n")
        self.bad("house a { can w() number = a }" + MAIN, "a")

    def test_lets(self):
        for check in (self.in_main, self.in_word):
            check("let x = 1 in x")
            check("let x = p in x + p")
            check("let p = p in p")
            check("let x = x in 1", "x")
            check("let x = let x = 1 in x in x")
            check("let x = 1 in let x = x in x")
            check("let x = let y = 1 in y in y", "y")
            check("let x = 1 in let y = x in x + y")
            check("(let x = 1 in x) + x", "x")
            check("x + let x = 1 in x", "x")
            check("(let x = 1 in x) + let x = 2 in x")
            check("let x = let x = x in 1 in 2", "x")

    def test_bound_in_one_part_and_not_in_another(self):
        for check in (self.in_main, self.in_word):
            check("if (let x = 1 in x) then x else 1", "x")
            check("if 1 then (let x = 1 in x) else x", "x")
            check("if x then (let x = 1 in x) else 1", "x")
            check("if 1 then x else let x = 1 in x", "x")
            check("new a(let x = 1 in x, x)", "x")
            check("p.w(let x = 1 in x, x)", "x")
            check("(let x = 1 in x).w(x)", "x")
            check("x.w(let x = 1 in x)", "x")
            check("set (let x = 1 in x).n = x", "x")
            check("set x.n = let x = 1 in x", "x")
            check("(let x = 1 in x) ; x", "x")
            check("let x = 1 in (if x then x else x) + p.w(x, x) + new b(x) ; (set x.n = x) ; not x.m")
        self.in_word("elder.w(let x = 1 in x, x)", "x")

    def test_inside_every_form(self):
        for text in ("z", "new a(1, z)", "z.n", "z.w()", "p.w(1, z)", "not z", "z + 1", "1 ; z", "if z then 1 else 1",
                     "if 1 then z else 1", "if 1 then 1 else z", "let x = z in 1", "let x = 1 in z", "set z.n = 1",
                     "set p.n = z", "not new a(1, p.w(z).n)"):
            self.in_main(text, "z")
            self.in_word(text, "z")
        self.in_word("elder.w(1, z)", "z")

    def test_new(self):
        for check in (self.in_main, self.in_word):
            check("new a()")
            check("new b(1, 2)")
            check("new z()", "z")
            check("new p()", "p")
            check("let x = 1 in new x()", "x")
            check("not new z()", "z")

    def test_self_and_elder(self):
        self.in_word("self")
        self.in_word("self.n + elder.w()")
        self.in_main("self", "self")
        self.in_main("1 + self.n", "self")
        self.in_main("elder.w()", "elder")
        self.in_main("not elder.w(self)", "elder")
        self.in_main("not self.w(elder.v())", "self")
        self.in_word("elder.w()", "elder", "")
        self.in_word("1 + elder.w()", "elder", "")
        self.in_word("self.w()", None, "")

    def test_fields_and_words_are_not_looked_at(self):
        for check in (self.in_main, self.in_word):
            check("p.nobody + p.nobody() + (set p.nobody = 1)")
        self.in_word("elder.nobody(1, 2, 3)")

    def test_each_ahead_of_its_parts_parts_from_the_left(self):
        self.in_main("new z(x)", "z")
        self.in_main("x + new z()", "x")
        self.in_main("new z() + x", "z")
        self.in_main("x.w(y, z)", "x")
        self.in_main("p.w(y, z)", "y")
        self.in_main("if x then y else z", "x")
        self.in_main("if p then y else z", "y")
        self.in_main("let x = y in z", "y")
        self.in_main("set x.n = y", "x")
        self.in_main("new a(not not not x, y)", "x")
        self.in_main("(p + (p + x)) + y", "x")
        self.in_word("elder.w(x)", "elder", "")
        self.in_word("elder.w(x, y)", "x")

    def test_bodies_in_order(self):
        parts = ("house a { can w() number = %s can v() number = %s } house b { can w() number = %s }"
                 " main() number = %s")
        self.bad(parts % ("w1", "w2", "w3", "w4"), "w1")
        self.bad(parts % ("1", "w2", "w3", "w4"), "w2")
        self.bad(parts % ("1", "1", "w3", "w4"), "w3")
        self.bad(parts % ("1", "1", "1", "w4"), "w4")

    def test_as_deep_as_can_be(self):
        self.good("main() number = " + "let x = 1 in " * 13 + "x")
        self.bad("main() number = " + "let x = 1 in " * 13 + "y", "y")
        deep = ("name", "z")
        for _ in range(300):
            deep = ("not", deep)
        self.bad_program(program_of(((), ((), "number", deep))), "z")


# One fault each, in the order in which they are due, with the word that is told; parts that do not hinder one another.
FAULTS = (
    ("twice", "a"),
    ("elder", "noelder"),
    ("ring", "ring"),
    ("field", "f"),
    ("fieldkind", "nofkind"),
    ("word", "v"),
    ("param", "p"),
    ("paramkind", "nopkind"),
    ("wordkind", "nowkind"),
    ("mainparam", "m"),
    ("mainkind", "nomkind"),
    ("body", "unbound"),
    ("mainbody", "self"),
)


def faulty(faults):
    """A program with these faults, each at the last place where it may be, so that others could come first."""
    def when(fault, text, other=""):
        return text if fault in faults else other

    return read(
        "house a { has n number } "
        + "house b of " + when("ring", "ring", "a") + " { " + when("field", "has f number has f number ")
        + when("fieldkind", "has g nofkind ")
        + when("word", "can v() number = 1 can v() number = 1 ")
        + when("param", "can u(p number, p number) number = 1 ")
        + when("paramkind", "can t(p number, q nopkind) number = 1 ")
        + when("wordkind", "can s(p number) nowkind = 1 ")
        + when("body", "can r(p number) number = p + unbound ") + "} "
        + when("ring", "house ring of ring { } ")
        + when("elder", "house c of noelder { } ")
        + when("twice", "house a { } ")
        + "main(m number" + when("mainparam", ", m number") + ") " + when("mainkind", "nomkind", "number")
        + " = " + when("mainbody", "1 + self", "1"))


class TheFirstIsTold(NamesCase):
    def test_none(self):
        self.assertIsNone(need_names(faulty([])))

    def test_each_by_itself(self):
        for fault, word in FAULTS:
            self.bad_program(faulty([fault]), word)

    def test_each_two_at_once(self):
        for first, second in itertools.combinations(FAULTS, 2):
            self.bad_program(faulty([first[0], second[0]]), first[1])

    def test_this_and_all_behind(self):
        for place in range(len(FAULTS)):
            self.bad_program(faulty([fault for fault, _ in FAULTS[place:]]), FAULTS[place][1])

    def test_house_by_house(self):
        self.bad("house a { has n y } house b { has m number has m number }" + MAIN, "y")
        self.bad("house a { can w() y = 1 } house b { has m z }" + MAIN, "y")
        self.bad("house a { has n number can w(p number, p number) y = 1 } house b { has m z }" + MAIN, "p")

    def test_field_by_field(self):
        self.bad("house a { has n z has n number }" + MAIN, "z")
        self.bad("house a { has n number has n z has m y }" + MAIN, "n")

    def test_word_by_word_and_param_by_param(self):
        self.bad("house a { can w(p number) z = 1 can w() number = 1 }" + MAIN, "z")
        self.bad("house a { can w(p number) number = 1 can w(q y, q z) z = 1 }" + MAIN, "w")
        self.bad("house a { can w(p y, p z) x = 1 }" + MAIN, "y")
        self.bad("house a { can w(p number, p z) x = 1 }" + MAIN, "p")
        self.bad("house a { can w(p number, q z) x = 1 }" + MAIN, "z")
        self.bad("main(p number, p number) x = self", "p")


if __name__ == "__main__":
    unittest.main()
