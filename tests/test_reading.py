"""Points 2 to 4 and 7: what texts are programs, and which."""

import random
import re
import unittest

from grammar import is_name, readings

from elderhouse.building import program_of
from elderhouse.errors import BadForm, BadWords
from elderhouse.reading import read
from elderhouse.terms import Program, Term
from elderhouse.words import words

A, B, C, ONE, TWO = ("name", "a"), ("name", "b"), ("name", "c"), ("number", 1), ("number", 2)
YES, NO, SELF = ("truth", True), ("truth", False), ("self",)
TOLD = "house of has can main let in if then else new self elder set not yes no number truth".split()
# All words that stand for their sort: each told one, each sign, a number, a name.
SORTS = TOLD + list("(){},.;=+-*/<") + ["0", "name"]

NAME = "(?!(?:" + "|".join(TOLD) + ") )[a-z][a-z0-9]{0,7} "
KIND = "(?:number |truth |" + NAME + ")"
# Programs of point 3 whose terms are of one word, or not ahead of it, a blank behind each word.
TERM = "(?:not )?(?:self |yes |no |[0-9] |" + NAME + ")"
PARAMS = "\\( (?:" + NAME + KIND + "(?:, " + NAME + KIND + ")*)?\\) "
WORD = "can " + NAME + PARAMS + KIND + "= " + TERM
HOUSE = "house " + NAME + "(?:of " + NAME + ")?{ (?:has " + NAME + KIND + ")*(?:" + WORD + ")*} "
PROGRAM = re.compile("(?:" + HOUSE + ")*main " + PARAMS.replace(KIND, "number ") + KIND + "= " + TERM)


class ReadingCase(unittest.TestCase):
    def reads(self, text, plain):
        program = read(text)
        self.assertIsInstance(program, Program)
        self.assertEqual(program.plain(), plain, text)
        self.assertEqual(repr(program.plain()), repr(plain), text)

    def term(self, text, plain):
        self.reads("main() number = " + text, ((), ((), "number", plain)))

    def no_term(self, text):
        self.refused("main() number = " + text)
        self.refused("house h { can w() number = " + text + " } main() number = 1")

    def refused(self, text):
        with self.assertRaises(BadForm, msg=text):
            read(text)


class Programs(ReadingCase):
    def test_main_alone(self):
        self.reads("main() number = 1", ((), ((), "number", ONE)))
        self.reads("main ( x number ) truth = yes", ((), ((("x", "number"),), "truth", YES)))
        self.reads("main(x number,y number)box=1", ((), ((("x", "number"), ("y", "number")), "box", ONE)))

    def test_gaps(self):
        self.reads("\n\tmain\n(\t)\nnumber\n=\n1\n", ((), ((), "number", ONE)))

    def test_houses(self):
        self.reads("house a { } main() number = 1", ((("a", None, (), ()),), ((), "number", ONE)))
        self.reads("house b of a{}main()number=1", ((("b", "a", (), ()),), ((), "number", ONE)))
        self.reads(
            "house a { has n number has t truth has o b can get() number = self.n can put(x number, y a) b = y }"
            " house b of a { can get() number = elder.get() }"
            " house c { has m c } main(p number) c = new c(1)",
            ((("a", None, (("n", "number"), ("t", "truth"), ("o", "b")),
               (("get", (), "number", ("field", SELF, "n")),
                ("put", (("x", "number"), ("y", "a")), "b", ("name", "y")))),
              ("b", "a", (), (("get", (), "number", ("elder", "get", ())),)),
              ("c", None, (("m", "c"),), ())),
             ((("p", "number"),), "c", ("new", "c", (ONE,)))))

    def test_it_reads_as_program_of_builds(self):
        text = "house a { has n number can w(x truth) a = self } main() number = let x = 1 in if yes then x else 2"
        program = read(text)
        built = program_of(program.plain())
        self.assertEqual(built.plain(), program.plain())
        self.assertEqual([(body.plain(), body.depth(), body.size()) for body in built.bodies()],
                         [(body.plain(), body.depth(), body.size()) for body in program.bodies()])
        self.assertEqual([(body.depth(), body.size()) for body in program.bodies()], [(1, 1), (3, 6)])
        for body in program.bodies():
            self.assertIsInstance(body, Term)

    def test_names_and_kinds_are_not_looked_at(self):
        read("house a of a { has n z has n z can w(x q, x q) z = self.nobody } house a { }"
             " main() z = new none(elder.w())")

    def test_what_is_told_is_the_askers_own(self):
        text = "house a { can w() number = 1 } main() number = 1 + 2"
        one, other = read(text), read(text)
        one.bodies().clear()
        one.bodies()[1].parts().clear()
        told = other.bodies()
        told.reverse()
        self.assertEqual(one.plain(), other.plain())
        self.assertEqual(len(one.bodies()), 2)
        self.assertEqual(len(one.bodies()[1].parts()), 2)


class HowMany(ReadingCase):
    def main_behind(self, houses):
        return houses + " main() number = 1"

    def test_houses(self):
        for many in range(13):
            text = self.main_behind(" ".join("house h%d { }" % number for number in range(many)))
            self.reads(text, (tuple(("h%d" % number, None, (), ()) for number in range(many)), ((), "number", ONE)))
        for many in (13, 14, 20):
            self.refused(self.main_behind(" ".join("house h%d { }" % number for number in range(many))))

    def test_fields(self):
        for many in range(5):
            fields = tuple(("f%d" % number, "number") for number in range(many))
            text = "house a { " + " ".join("has %s %s" % field for field in fields) + " can w() a = 1 }"
            word = ("w", (), "a", ONE)
            self.reads(self.main_behind(text), ((("a", None, fields, (word,)),), ((), "number", ONE)))
        for many in (5, 6, 12):
            self.refused(self.main_behind("house a { " + "has f number " * many + "}"))
            self.refused(self.main_behind("house b { } house a { " + "has f number " * many + "can w() a = 1 }"))

    def test_words(self):
        for many in range(9):
            told = tuple(("w%d" % number, (), "truth", ("number", number)) for number in range(many))
            text = "house a { has f a " + " ".join("can %s() truth = %d" % (one[0], one[3][1]) for one in told) + " }"
            self.reads(self.main_behind(text), ((("a", None, (("f", "a"),), told),), ((), "number", ONE)))
        for many in (9, 10, 16):
            self.refused(self.main_behind("house a { " + "can w() a = 1 " * many + "}"))

    def test_params(self):
        for many in range(5):
            params = tuple(("p%d" % number, "number") for number in range(many))
            row = ", ".join("%s %s" % param for param in params)
            self.reads("house a { can w(" + row + ") a = 1 } main(" + row + ") number = 1",
                       ((("a", None, (), (("w", params, "a", ONE),)),), (params, "number", ONE)))
        for many in (5, 6, 12):
            row = ", ".join(["p number"] * many)
            self.refused("main(" + row + ") number = 1")
            self.refused(self.main_behind("house a { can w(" + row + ") number = 1 }"))

    def test_terms(self):
        for many in range(9):
            terms = tuple(("number", number) for number in range(many))
            row = "(" + ", ".join(str(number) for number in range(many)) + ")"
            self.term("new a" + row, ("new", "a", terms))
            self.term("elder.a" + row, ("elder", "a", terms))
            self.term("a.b" + row, ("call", A, "b", terms))
        for many in (9, 10, 20):
            row = "(" + ", ".join(["1"] * many) + ")"
            for text in ("new a" + row, "elder.a" + row, "a.b" + row):
                self.no_term(text)
                self.no_term("1 + " + text + ".c")

    def test_kinds_of_params(self):
        for other in ("truth", "a", "numbers"):
            self.refused("main(x " + other + ") number = 1")
            self.refused("main(x number, y " + other + ", z number) number = 1")
            self.refused("main(x number, y number, z number, v " + other + ") number = 1")
            text = "house a { can w(x " + other + ") number = 1 }"
            self.reads(self.main_behind(text), ((("a", None, (), (("w", (("x", other),), "number", ONE),)),),
                                                ((), "number", ONE)))

    def test_kinds_that_are_told(self):
        for other in ("number", "truth", "a", "z9"):
            self.reads("house a { has f %s can w() %s = 1 } main() %s = 1" % (other, other, other),
                       ((("a", None, (("f", other),), (("w", (), other, ONE),)),), ((), other, ONE)))


class WhatIsNoProgram(ReadingCase):
    def test_nothing_and_too_little(self):
        for text in ("", " ", "\n", "main", "main (", "main ( )", "main ( ) number", "main ( ) number =", "1", "house",
                     "house a { }", "house a { } house b { }", "main() number = 1 +"):
            self.refused(text)

    def test_words_behind_mains_term(self):
        for word in SORTS:
            self.refused("main() number = 1 " + word)
            self.refused("main() number = (1) " + word)
            if word != "(":
                self.refused("main() number = a.b " + word)
        for more in ("main() number = 1", "house a { }", "1", "}", "; ;", "can w() number = 1"):
            self.refused("main() number = 1 " + more)

    def test_words_between_and_ahead(self):
        for word in SORTS:
            self.refused(word + " main() number = 1")
            self.refused("house a { } " + word + " main() number = 1")
            self.refused("house a { " + word + " } main() number = 1")
            self.refused("house a { has n number " + word + " can w() a = 1 } main() number = 1")

    def test_order(self):
        self.refused("main() number = 1 house a { }")
        self.refused("house a { can w() number = 1 has n number } main() number = 1")
        self.refused("house a { has n number can w() number = 1 has m number } main() number = 1")
        self.refused("house a { main() number = 1 }")
        self.refused("house a { house b { } } main() number = 1")

    def test_each_word_left_out_doubled_exchanged(self):
        row = words("house b of a { has n number has m truth can w ( x number , y b ) number = x can v ( ) b = 1 }"
                    " main ( p number , q number ) b = 1")
        read(" ".join(row))
        for place in range(len(row)):
            self.like_the_pattern(row[:place] + row[place + 1:])
            self.like_the_pattern(row[:place] + [row[place]] + row[place:])
            for word in SORTS:
                self.like_the_pattern(row[:place] + [word] + row[place + 1:])
                self.like_the_pattern(row[:place] + [word] + row[place:])

    def like_the_pattern(self, row):
        text = " ".join(row)
        if PROGRAM.fullmatch(text + " "):
            read(text)
        else:
            self.refused(text)

    def test_commas_of_params(self):
        for params in (",", "x number,", ",x number", "x number,,y number", "x number y number", "x, y number",
                       "x number number", "x", "number", "x y number", "(x number)"):
            self.refused("main(" + params + ") number = 1")
            self.refused("house a { can w(" + params + ") number = 1 } main() number = 1")

    def test_bad_words_come_first(self):
        for text, at in (("main() number = 1 1 A", 20), ("A", 0), ("house house !", 12), ("(" * 20 + "?", 20),
                         ("main() number = " + "not " * 20 + "1x", 96)):
            with self.assertRaises(BadWords) as caught:
                read(text)
            self.assertEqual(caught.exception.at, at)
        for other in (None, 5, b"main", "main() number = 1" + " " * 6000):
            with self.assertRaises(BadWords) as caught:
                read(other)
            self.assertEqual(caught.exception.at, 0)

    def test_six_thousand_signs(self):
        text = "main() number = 1"
        self.reads(text + " " * (6000 - len(text)), ((), ((), "number", ONE)))


# Each form of point 4, every word of it parted by blanks, and its tree.
FORMS = (
    ("0", ("number", 0)),
    ("999999999", ("number", 999999999)),
    ("yes", YES),
    ("no", NO),
    ("a", A),
    ("self", SELF),
    ("new a ( )", ("new", "a", ())),
    ("new a ( 1 )", ("new", "a", (ONE,))),
    ("new a ( 1 , b , 2 )", ("new", "a", (ONE, B, TWO))),
    ("elder . a ( )", ("elder", "a", ())),
    ("elder . a ( 1 , b )", ("elder", "a", (ONE, B))),
    ("( a )", A),
    ("a . b", ("field", A, "b")),
    ("a . b ( )", ("call", A, "b", ())),
    ("a . b ( 1 , c )", ("call", A, "b", (ONE, C))),
    ("not a", ("not", A)),
    ("a + b", ("two", "+", A, B)),
    ("a - b", ("two", "-", A, B)),
    ("a * b", ("two", "*", A, B)),
    ("a / b", ("two", "/", A, B)),
    ("a < b", ("two", "<", A, B)),
    ("a = b", ("two", "=", A, B)),
    ("a ; b", ("two", ";", A, B)),
    ("if a then b else c", ("if", A, B, C)),
    ("let a = b in c", ("let", "a", B, C)),
    ("set a . b = c", ("set", A, "b", C)),
    ("set elder . a ( ) . b = c", ("set", ("elder", "a", ()), "b", C)),
)


class EachForm(ReadingCase):
    def like_the_rules(self, row):
        text = "main() number = " + " ".join(row)
        due = readings(row)
        self.assertLessEqual(len(due), 1, text)
        if due:
            self.reads(text, ((), ((), "number", due[0])))
        else:
            self.refused(text)

    def test_each(self):
        for text, plain in FORMS:
            self.term(text, plain)
            self.term("( " + text + " )", plain)
            self.assertEqual(readings(text.split()), [plain])

    def test_without_gaps(self):
        self.term("new a(1,b)", ("new", "a", (ONE, B)))
        self.term("elder.a(1)", ("elder", "a", (ONE,)))
        self.term("a.b(1).c", ("field", ("call", A, "b", (ONE,)), "c"))
        self.term("(a)", A)
        self.term("let a=b in c", ("let", "a", B, C))

    def test_each_word_left_out(self):
        for text, _ in FORMS:
            row = text.split()
            for place in range(len(row)):
                self.like_the_rules(row[:place] + row[place + 1:])

    def test_each_word_doubled(self):
        for text, _ in FORMS:
            row = text.split()
            for place in range(len(row)):
                self.like_the_rules(row[:place] + [row[place]] + row[place:])

    def test_each_word_exchanged(self):
        for text, _ in FORMS:
            row = text.split()
            for place in range(len(row)):
                for word in SORTS:
                    self.like_the_rules(row[:place] + [word] + row[place + 1:])

    def test_a_word_more(self):
        for text, _ in FORMS:
            row = text.split()
            for place in range(len(row) + 1):
                for word in SORTS:
                    self.like_the_rules(row[:place] + [word] + row[place:])

    def test_two_words_exchanged_with_one_another(self):
        for text, _ in FORMS:
            row = text.split()
            for one in range(len(row)):
                for other in range(one):
                    changed = list(row)
                    changed[one], changed[other] = row[other], row[one]
                    self.like_the_rules(changed)

    def test_a_name_wanted_at_each_place(self):
        rows = ("new a ( 1 )", "elder . a ( 1 )", "1 . a", "1 . a ( 1 )", "let a = 1 in 1", "set 1 . a = 1")
        for text in rows:
            row = text.split()
            place = row.index("a")
            for word in TOLD + ["0", "12"]:
                self.no_term(" ".join(row[:place] + [word] + row[place + 1:]))
            for word in ("x", "z9", "abcdefgh", "iff", "elders"):
                read("main() number = " + " ".join(row[:place] + [word] + row[place + 1:]))

    def test_commas_of_terms(self):
        for terms in (",", "1 ,", ", 1", "1 , , 2", "1 2", "1 , 2 ,"):
            for ahead in ("new a", "elder . a", "a . b"):
                self.no_term(ahead + " ( " + terms + " )")
        self.no_term("( 1 , 2 )")
        self.no_term("( )")

    def test_brackets(self):
        for text in ("( 1", "1 )", "( ( 1 )", "( 1 ) )", ") 1 (", "{ 1 }", "new a", "elder . a", "elder", "elder a ( )",
                     "a ( 1 )", "1 ( )", "( a ) ( )", "new a . b", "new ( a )", "elder ( )", "a . ( b )",
                     "a . b . ( )"):
            self.no_term(text)

    def test_what_other_languages_have(self):
        for text in ("- 1", "+ 1", "a == b", "a <= b", "a and b", "not", "if a then b", "let a = b", "set a = b",
                     "a.b =", "let a b in c", "if a else b", "a ; ", "; a", "main", "number", "truth", "house"):
            self.no_term(text)


class ManyTexts(ReadingCase):
    def test_rows_of_words_that_chance_tells(self):
        chance = random.Random(5)
        parts = ("a", "1", "not", ";", "<", "=", "+", "*", ". b", ". c ( )", "( ", ")", "if a then 1 else",
                 "let x = 1 in", "set a . b =", "new h ( 1 ,", "elder . w (", "then", "in")
        read_at_all = 0
        for _ in range(4000):
            row = " ".join(chance.choice(parts) for _ in range(chance.randint(1, 5))).split()
            due = readings(row)
            self.assertLessEqual(len(due), 1)
            try:
                told = [read("main() number = " + " ".join(row)).plain()[1][2]]
            except BadForm:
                told = []
            self.assertEqual(told, due, row)
            read_at_all += len(due)
        self.assertGreater(read_at_all, 100)


if __name__ == "__main__":
    unittest.main()
