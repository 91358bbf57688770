"""Points 11 and 12: the kinds of terms, and which refusal is told first."""

import unittest

from samples import WRITTEN, programs

from elderhouse.building import program_of
from elderhouse.checking import kinds_of
from elderhouse.errors import BadKind
from elderhouse.names import need_names
from elderhouse.reading import read

# b and c are a's younger ones, d is b's; e stands apart. Names of params go with their kinds.
HOUSES = """
    house a { has n number has t truth has o e can w() number = 1 can v(x number, y a) a = self can u(x b) truth = yes }
    house b of a { has m b can q() b = self }
    house c of a { }
    house d of b { }
    house e { has n truth can w(x truth) truth = x }
"""
PARAMS = "na number, tr truth, pa a, pb b"


class CheckingCase(unittest.TestCase):
    def kinds(self, text):
        program = read(text)
        plain = program.plain()
        need_names(program)
        told = kinds_of(program)
        self.assertIs(type(told), list)
        for body in told:
            self.assertIs(type(body), list)
        self.assertEqual([len(body) for body in told], [body.size() for body in program.bodies()])
        self.assertEqual(program.plain(), plain)
        return told

    def bad(self, text, word):
        program = read(text)
        need_names(program)
        with self.assertRaises(BadKind, msg=text) as caught:
            kinds_of(program)
        self.assertEqual(caught.exception.word, word, text)


class TermsCase(CheckingCase):
    """Terms in a word of house x, which is of b, and has the params of PARAMS."""

    def program_of(self, kind, term):
        # More params than a text may tell, so put together by hand.
        text = HOUSES + " house x of b { can mine(" + PARAMS + ") " + kind + " = " + term + " } main() number = 1"
        plain = read(text).plain()
        house = plain[0][-1]
        word = house[3][0]
        params = word[1] + (("pc", "c"), ("pd", "d"), ("pe", "e"))
        house = house[:3] + (((word[0], params) + word[2:],),)
        return program_of((plain[0][:-1] + (house,), plain[1]))

    def tells(self, term, kinds, kind=None):
        """The term's kinds, written with blanks between."""
        due = kinds.split()
        program = self.program_of(kind or due[0], term)
        need_names(program)
        self.assertEqual(kinds_of(program)[-2], due, term)

    def refuses(self, term, word, kind="number"):
        program = self.program_of(kind, term)
        need_names(program)
        with self.assertRaises(BadKind, msg=term) as caught:
            kinds_of(program)
        self.assertEqual(caught.exception.word, word, term)


class EachForm(TermsCase):
    def test_those_of_one_word(self):
        self.tells("1", "number")
        self.tells("yes", "truth")
        self.tells("no", "truth")
        for name, kind in (("na", "number"), ("tr", "truth"), ("pa", "a"), ("pb", "b"), ("pc", "c"), ("pd", "d"),
                           ("pe", "e")):
            self.tells(name, kind)
        self.tells("self", "x")

    def test_two_of_numbers(self):
        for sign in "+-*/":
            self.tells("na %s 1" % sign, "number number number")
            for one, other in (("tr", "1"), ("1", "tr"), ("pa", "1"), ("1", "pa"), ("tr", "tr"), ("pa", "pa")):
                self.refuses("%s %s %s" % (one, sign, other), sign)
        self.tells("na < 1", "truth number number")
        for one, other in (("tr", "1"), ("1", "tr"), ("pa", "1"), ("1", "pa"), ("tr", "tr"), ("pa", "pa")):
            self.refuses("%s < %s" % (one, other), "<", "truth")

    def test_same(self):
        self.tells("na = 1", "truth number number")
        self.tells("tr = no", "truth truth truth")
        for one, kind in (("pa", "a"), ("pb", "b"), ("pc", "c"), ("pd", "d"), ("pe", "e"), ("self", "x")):
            self.tells("pa = %s" % one, "truth a " + kind)
            self.tells("%s = pe" % one, "truth " + kind + " e")
        for one, other in (("1", "yes"), ("yes", "1"), ("1", "pa"), ("pa", "1"), ("tr", "pe"), ("pe", "tr")):
            self.refuses("%s = %s" % (one, other), "=", "truth")

    def test_semicolon(self):
        for one, kind in (("1", "number"), ("tr", "truth"), ("pa", "a"), ("pe", "e")):
            self.tells("%s ; na" % one, "number " + kind + " number")
            self.tells("na ; %s" % one, kind + " number " + kind)

    def test_not(self):
        self.tells("not tr", "truth truth")
        self.tells("not not tr", "truth truth truth")
        self.refuses("not 1", "not", "truth")
        self.refuses("not pa", "not", "truth")

    def test_if(self):
        self.tells("if tr then 1 else na", "number truth number number")
        self.tells("if tr then tr else no", "truth truth truth truth")
        self.tells("if tr then pb else pc", "a truth b c")
        self.tells("if tr then pd else pb", "b truth d b")
        self.tells("if tr then pb else pd", "b truth b d")
        self.tells("if tr then self else pd", "b truth x d")
        self.tells("if tr then pa else pd", "a truth a d")
        self.tells("if tr then pe else pe", "e truth e e")
        for term in ("if 1 then 1 else 1", "if pa then 1 else 1", "if tr then 1 else yes", "if tr then yes else 1",
                     "if tr then 1 else pa", "if tr then pa else tr", "if tr then pa else pe", "if tr then pe else pd"):
            self.refuses(term, "if")

    def test_let(self):
        self.tells("let z = 1 in yes", "truth number truth")
        self.tells("let z = pb in z", "b b b")
        self.tells("let z = pb in z.m.q()", "b b b b b")
        self.tells("let na = yes in not na", "truth truth truth truth")
        self.tells("let na = na < 1 in not na", "truth truth number number truth truth")
        self.tells("let z = 1 in let z = yes in z", "truth number truth truth truth")
        self.tells("(let na = yes in na) ; na", "number truth truth truth number")
        self.tells("let z = (let z = pa in pb) in z", "b b a b b")
        self.refuses("let na = yes in na + 1", "+")
        self.refuses("(let na = yes in na) = na", "=", "truth")

    def test_new(self):
        self.tells("new e(yes)", "e truth")
        self.tells("new a(1, yes, pe)", "a number truth e")
        self.tells("new c(1, yes, pe)", "c number truth e")
        self.tells("new b(1, yes, pe, pb)", "b number truth e b")
        self.tells("new d(1, yes, pe, pd)", "d number truth e d")
        self.tells("new x(1, yes, pe, self)", "x number truth e x")
        for house in "abcdx":
            for terms in ("", "1", "1, yes", "1, yes, pe, pb, pb", "yes, yes, pe", "1, 1, pe", "1, yes, pa",
                          "yes, yes, pe, pb", "1, yes, pa, pb", "1, yes, pe, pa", "1, yes, pe, pc", "1, yes, pe, 1"):
                self.refuses("new %s(%s)" % (house, terms), house, house)
        self.refuses("new a(1, yes, pe, pb)", "a", "a")
        self.refuses("new b(1, yes, pe)", "b", "b")

    def test_field(self):
        self.tells("pa.n", "number a")
        self.tells("pa.t", "truth a")
        self.tells("pa.o", "e a")
        self.tells("pb.n", "number b")
        self.tells("pd.m", "b d")
        self.tells("pe.n", "truth e")
        self.tells("pa.o.n", "truth e a")
        self.tells("self.m.m.n", "number b b x")
        for term, word in (("1.n", "n"), ("tr.n", "n"), ("pa.m", "m"), ("pc.m", "m"), ("pe.t", "t"), ("pa.w", "w"),
                           ("pa.z", "z"), ("pa.n.n", "n"), ("pa.a", "a")):
            self.refuses(term, word)

    def test_set(self):
        self.tells("set pa.n = 1", "number a number")
        self.tells("set pe.n = yes", "truth e truth")
        self.tells("set pb.m = pb", "b b b")
        self.tells("set pb.m = pd", "d b d")
        self.tells("set pb.m = self", "x b x")
        self.tells("set self.m.m = pd", "d b x d", "a")
        for term, word in (("set pa.n = yes", "n"), ("set pa.t = 1", "t"), ("set pa.n = pa", "n"),
                           ("set pa.o = pa", "o"), ("set pb.m = pa", "m"), ("set pb.m = pc", "m"),
                           ("set pa.m = pb", "m"), ("set 1.n = 1", "n"),
                           ("set pa.w = 1", "w"), ("set pa.o.t = yes", "t"), ("set pb.m = 1", "m")):
            self.refuses(term, word)

    def test_call(self):
        self.tells("pa.w()", "number a")
        self.tells("pd.w()", "number d")
        self.tells("pe.w(yes)", "truth e truth")
        self.tells("pa.v(1, pa)", "a a number a")
        self.tells("pa.v(1, pd)", "a a number d")
        self.tells("pd.v(1, self)", "a d number x")
        self.tells("pa.u(pb)", "truth a b")
        self.tells("pa.u(self)", "truth a x")
        self.tells("pd.q()", "b d")
        self.tells("self.q().q().w()", "number b b x")
        for term, word in (("1.w()", "w"), ("tr.w()", "w"), ("pa.q()", "q"), ("pc.q()", "q"), ("pe.v(1, pa)", "v"),
                           ("pa.n()", "n"), ("pa.z()", "z"), ("pa.w(1)", "w"), ("pe.w()", "w"), ("pe.w(yes, yes)", "w"),
                           ("pa.v(1)", "v"), ("pa.v(pa, 1)", "v"), ("pa.v(yes, pa)", "v"), ("pa.v(1, pe)", "v"),
                           ("pa.v(1, 1)", "v"), ("pa.u(pa)", "u"), ("pa.u(pc)", "u"), ("pe.w(1)", "w")):
            self.refuses(term, word)

    def test_the_elders_call(self):
        self.tells("elder.w()", "number")
        self.tells("elder.q()", "b")
        self.tells("elder.v(1, self)", "a number x")
        self.tells("elder.u(pd)", "truth d")
        for term, word in (("elder.mine(1, yes, pa, pb)", "mine"), ("elder.z()", "z"), ("elder.w(1)", "w"),
                           ("elder.v(1)", "v"), ("elder.u(pa)", "u"), ("elder.n()", "n"), ("elder.v(yes, pa)", "v")):
            self.refuses(term, word)

    def test_the_elders_call_starts_at_the_elder(self):
        self.kinds("house a { can w() number = 1 } house b of a { can v() number = elder.w() can w() number = 2 }"
                   " main() number = 1")
        self.bad("house a { } house b of a { can v() number = elder.w() can w() number = 2 } main() number = 1", "w")

    def test_main(self):
        self.assertEqual(self.kinds("main(x number, y number) truth = x < y + 1"),
                         [["truth", "number", "number", "number", "number"]])


class TheFirstIsTold(TermsCase):
    def test_parts_ahead_of_the_term(self):
        self.refuses("not (1 + yes)", "+")
        self.refuses("1 + not 1", "not")
        self.refuses("if 1 + yes then 1 else yes", "+")
        self.refuses("if 1 then 1 else not 1", "not")
        self.refuses("pa.z(1 + yes)", "+")
        self.refuses("new e(not 1, 2)", "not")
        self.refuses("(1 + yes).n", "+")
        self.refuses("set (1 + yes).n = not 1", "+")
        self.refuses("set pa.z = not 1", "not")
        self.refuses("elder.z(not 1)", "not")
        self.refuses("let z = 1 < yes in z + 1", "<")

    def test_from_the_left(self):
        self.refuses("(1 + yes) - (not 1)", "+")
        self.refuses("(not 1) - (1 + yes)", "not")
        self.refuses("if 1 < yes then 1 + yes else not 1", "<")
        self.refuses("if yes then 1 + yes else not 1", "+")
        self.refuses("pa.v(1 - yes, not 1)", "-")
        self.refuses("(1 + yes).v(1 - yes)", "+")
        self.refuses("new a(1 * yes, not 1, 1 / yes)", "*")
        self.refuses("elder.v(1 * yes, not 1)", "*")
        self.refuses("let z = 1 * yes in not 1", "*")
        self.refuses("(1 * yes) ; not 1", "*")

    def test_a_let_that_is_wrong_for_its_name(self):
        self.refuses("let z = yes in (z + 1) ; not 1", "+")


BODIES = "house a { can w() number = %s can v() truth = %s } house b of a { can w() number = %s } main() number = %s"


class WordsAndBodies(CheckingCase):
    def test_kinds_of_all_bodies_in_order(self):
        self.assertEqual(self.kinds(BODIES % ("1 + 2", "yes", "elder.w() ; 3", "new a().w()")),
                         [["number", "number", "number"], ["truth"], ["number", "number", "number"], ["number", "a"]])
        self.assertEqual(self.kinds("main() number = 1"), [["number"]])
        self.assertEqual(self.kinds("house a { has n number } main() a = new a(1)"), [["a", "number"]])

    def test_each_bodys_kind(self):
        good = ("1", "yes", "2", "3")
        self.kinds(BODIES % good)
        for place, word in enumerate(("w", "v", "w", "main")):
            row = list(good)
            row[place] = "1" if word == "v" else "yes"
            self.bad(BODIES % tuple(row), word)

    def test_a_body_fits_what_is_told(self):
        houses = "house a { } house b of a { } house c { } "
        self.kinds(houses + "main() a = new b()")
        self.kinds(houses + "main() a = new a()")
        self.bad(houses + "main() b = new a()", "main")
        self.bad(houses + "main() a = new c()", "main")
        self.bad(houses + "main() a = 1", "main")
        self.bad(houses + "main() number = new a()", "main")
        self.kinds("house a { can w() a = self } house b of a { can v() a = self } main() number = 1")
        self.bad("house a { can w() b = self } house b of a { } main() number = 1", "w")

    def test_bodies_in_order(self):
        self.bad(BODIES % ("1 + yes", "not 1", "1 - yes", "1 * yes"), "+")
        self.bad(BODIES % ("1", "not 1", "1 - yes", "1 * yes"), "not")
        self.bad(BODIES % ("1", "yes", "1 - yes", "1 * yes"), "-")
        self.bad(BODIES % ("1", "yes", "1", "1 * yes"), "*")
        self.bad(BODIES % ("yes", "1", "yes", "yes"), "w")
        self.bad(BODIES % ("1", "1", "1 - yes", "yes"), "v")


def putting(one, other, more=""):
    """An elder with the one heading for w, and a younger one with the other; p above q above r, and z apart."""
    return ("house p { } house q of p { } house r of q { } house z { }"
            " house a { can w" + one + " } " + more + "house b of a { can w" + other + " } main() number = 1")


class PutOtherwise(CheckingCase):
    def test_as_many_params(self):
        self.kinds(putting("() number = 1", "() number = 2"))
        self.kinds(putting("(x number, y truth) number = 1", "(x number, y truth) number = 2"))
        self.bad(putting("() number = 1", "(x number) number = 2"), "w")
        self.bad(putting("(x number) number = 1", "() number = 2"), "w")
        self.bad(putting("(x number) number = 1", "(x number, y number) number = 2"), "w")
        self.bad(putting("(x number, y number) number = 1", "(x number) number = 2"), "w")

    def test_of_the_very_kinds(self):
        self.kinds(putting("(x q) number = 1", "(x q) number = 2"))
        for other in ("p", "r", "z", "number", "truth"):
            self.bad(putting("(x q) number = 1", "(x " + other + ") number = 2"), "w")
        self.bad(putting("(x number) number = 1", "(x truth) number = 2"), "w")
        self.bad(putting("(x number, y truth) number = 1", "(x truth, y number) number = 2"), "w")

    def test_other_names_of_params(self):
        self.kinds(putting("(x number, y truth) number = 1", "(y number, x truth) number = y"))

    def test_telling_what_fits(self):
        self.kinds(putting("() q = new q()", "() q = new q()"))
        self.kinds(putting("() q = new q()", "() r = new r()"))
        self.bad(putting("() q = new q()", "() p = new p()"), "w")
        self.bad(putting("() q = new q()", "() z = new z()"), "w")
        self.bad(putting("() q = new q()", "() number = 1"), "w")
        self.bad(putting("() number = 1", "() truth = yes"), "w")
        self.bad(putting("() number = 1", "() q = new q()"), "w")

    def test_the_nearest_elder_that_has_it_counts(self):
        chain = ("house p { } house q of p { } house r of q { }"
                 " house a { can w() p = new p() } house b of a { can w() q = new q() } house c of b { }"
                 " house d of c { can w() %s = new %s() } main() number = 1")
        self.kinds(chain % ("q", "q"))
        self.kinds(chain % ("r", "r"))
        self.bad(chain % ("p", "p"), "w")

    def test_far_elders_count_where_no_nearer_one_has_it(self):
        self.bad("house d of c { can w(x number) number = 1 } house c of b { } house b of a { }"
                 " house a { can w() number = 1 } main() number = 1", "w")

    def test_fields_and_others_words_have_nothing_to_do_with_it(self):
        self.kinds("house a { has w truth } house b of a { can w() number = 1 } house c { can w(x number) truth = yes }"
                   " house d of a { can w() truth = self.w } main() number = 1")

    def test_ahead_of_its_body_and_behind_it(self):
        # The word's heading, then its body, then what the body tells.
        elder = "house a { can w() number = 1 can x() number = 1 can v() number = 1 } "
        self.bad(elder + "house b of a { can w() truth = 1 + yes } main() number = 1", "w")
        self.bad(elder + "house b of a { can w() number = not 1 } main() number = 1", "not")
        self.bad(elder + "house b of a { can w() number = yes can x() truth = yes } main() number = 1", "w")
        self.bad(elder + "house b of a { can w() number = 1 can x() truth = not 1 } main() number = not 1", "x")
        self.bad(elder + "house b of a { can w() number = not 1 can x() truth = yes } main() number = 1", "not")
        self.bad("house b of a { can w() truth = yes } house a { can w() number = not 1 } main() number = 1", "w")
        self.bad("house a { can w() number = not 1 } house b of a { can w() truth = yes } main() number = 1", "not")
        self.bad(elder + "main() truth = 1 + (not 1)", "not")
        self.bad(elder + "main() truth = 1", "main")


class ManyPrograms(CheckingCase):
    def test_written_ones_and_those_that_chance_tells(self):
        for text, _ in WRITTEN:
            self.kinds(text)
        for program, _ in programs(150):
            need_names(program)
            told = kinds_of(program)
            self.assertEqual([len(body) for body in told], [body.size() for body in program.bodies()])

    def test_what_is_told_is_the_askers_own(self):
        program = read(BODIES % ("1 + 2", "yes", "3", "4"))
        one, other = kinds_of(program), kinds_of(program)
        one[0].clear()
        one.pop()
        self.assertEqual(other, [["number"] * 3, ["truth"], ["number"], ["number"]])
        self.assertEqual(kinds_of(program), other)


if __name__ == "__main__":
    unittest.main()
