"""The interface's part on showing, and points 4, 5 and 7: texts of programs and terms, which read as them."""

import random
import unittest

from elderhouse.building import program_of, term_of
from elderhouse.reading import read
from elderhouse.showing import shown, shown_term
from elderhouse.words import words

A, B, C, ONE, SELF = ("name", "a"), ("name", "b"), ("name", "c"), ("number", 1), ("self",)

TEXTS = (
    (("number", 0), "0"),
    (("number", 999999999), "999999999"),
    (("truth", True), "yes"),
    (("truth", False), "no"),
    (A, "a"),
    (SELF, "self"),
    (("new", "h", ()), "new h ( )"),
    (("new", "h", (A,)), "new h ( a )"),
    (("new", "h", (A, ONE, C)), "new h ( a , 1 , c )"),
    (("elder", "w", ()), "elder . w ( )"),
    (("elder", "w", (A, B)), "elder . w ( a , b )"),
    (("field", A, "n"), "a . n"),
    (("field", ("field", SELF, "m"), "n"), "self . m . n"),
    (("call", A, "w", ()), "a . w ( )"),
    (("call", A, "w", (B, C, ONE)), "a . w ( b , c , 1 )"),
    (("not", A), "( not a )"),
    (("two", "+", A, B), "( a + b )"),
    (("two", "-", A, B), "( a - b )"),
    (("two", "*", A, B), "( a * b )"),
    (("two", "/", A, B), "( a / b )"),
    (("two", "<", A, B), "( a < b )"),
    (("two", "=", A, B), "( a = b )"),
    (("two", ";", A, B), "( a ; b )"),
    (("if", A, B, C), "( if a then b else c )"),
    (("let", "x", A, B), "( let x = a in b )"),
    (("set", A, "n", B), "( set a . n = b )"),
    (("two", "+", ("two", "+", A, B), C), "( ( a + b ) + c )"),
    (("two", "+", A, ("two", "+", B, C)), "( a + ( b + c ) )"),
    (("two", ";", A, ("two", ";", B, C)), "( a ; ( b ; c ) )"),
    (("not", ("not", A)), "( not ( not a ) )"),
    (("field", ("two", "+", A, B), "n"), "( a + b ) . n"),
    (("call", ("not", A), "w", (("not", B),)), "( not a ) . w ( ( not b ) )"),
    (("new", "h", (("two", "*", A, B), ("if", A, B, C))), "new h ( ( a * b ) , ( if a then b else c ) )"),
    (("set", ("field", A, "m"), "n", ("set", A, "m", B)), "( set a . m . n = ( set a . m = b ) )"),
    (("set", ("if", A, B, C), "n", ("call", B, "w", ())), "( set ( if a then b else c ) . n = b . w ( ) )"),
    (("set", ("new", "h", ()), "n", ONE), "( set new h ( ) . n = 1 )"),
    (("if", ("if", A, B, C), ("let", "x", A, B), ("set", A, "n", B)),
     "( if ( if a then b else c ) then ( let x = a in b ) else ( set a . n = b ) )"),
    (("field", ("elder", "w", (("elder", "v", ()),)), "n"), "elder . w ( elder . v ( ) ) . n"),
    (("two", "<", ONE, ("two", "<", A, B)), "( 1 < ( a < b ) )"),
)


class Terms(unittest.TestCase):
    def test_the_very_text(self):
        self.assertEqual(len({plain[0] for plain, _ in TEXTS}), 13)
        for plain, text in TEXTS:
            told = shown_term(term_of(plain))
            self.assertIs(type(told), str)
            self.assertEqual(told, text)

    def test_it_stands_so_in_a_body(self):
        for plain, text in TEXTS:
            program = program_of(((("h", None, (), (("w", (), "h", plain),)),), ((), "number", plain)))
            self.assertEqual(shown(program), "house h { can w ( ) h = " + text + " } main ( ) number = " + text)
            self.assertEqual(read(shown(program)).plain(), program.plain())

    def test_deep_ones(self):
        for plain, text in ((("not", A), "( not {} )"), (("field", A, "n"), "{} . n"),
                            (("two", "+", A, B), "( {} + b )"), (("call", A, "w", (B,)), "{} . w ( b )")):
            term, due = A, "a"
            for _ in range(400):
                term, due = tuple(term if part == A else part for part in plain), text.format(due)
            self.assertEqual(shown_term(term_of(term)), due)

    def test_nothing_is_changed(self):
        for plain, text in TEXTS:
            term = term_of(plain)
            shown_term(term)
            self.assertEqual(term.plain(), plain)
            self.assertEqual(shown_term(term), text)


class Programs(unittest.TestCase):
    def tells(self, text, due):
        told = shown(read(text))
        self.assertIs(type(told), str)
        self.assertEqual(told, due)
        self.assertEqual(read(told).plain(), read(text).plain())

    def test_the_very_text(self):
        self.tells("main()number=1", "main ( ) number = 1")
        self.tells("main(x number)h=x", "main ( x number ) h = x")
        self.tells("main(x number,y number)truth=x<y", "main ( x number , y number ) truth = ( x < y )")
        self.tells("house a{}main()a=1", "house a { } main ( ) a = 1")
        self.tells("house a{}house b of a{}main()a=1", "house a { } house b of a { } main ( ) a = 1")
        self.tells("house a{has n number}main()a=1", "house a { has n number } main ( ) a = 1")
        self.tells("house a of b{has n number has t truth has o a can get()number=self.n can put(x number,y a)a=y}\n"
                   "main(p number)number=if p<1 then 2 else new a(1,yes).put(p,self).n;3",
                   "house a of b { has n number has t truth has o a can get ( ) number = self . n "
                   "can put ( x number , y a ) a = y } main ( p number ) number = "
                   "( ( if ( p < 1 ) then 2 else new a ( 1 , yes ) . put ( p , self ) . n ) ; 3 )")

    def test_a_blank_between_any_two_words_and_no_other(self):
        for plain, _ in TEXTS:
            text = shown(program_of((((("h", "g", (("n", "number"),), (("w", (("x", "h"),), "h", plain),))),),
                                     ((("y", "number"),), "number", plain))))
            self.assertEqual(text, " ".join(words(text)))

    def test_more_than_six_thousand_signs(self):
        houses = tuple(("house%d" % number, None, tuple(("field%d" % at, "abcdefgh") for at in range(4)),
                        tuple(("word%d" % at, tuple(("param%d" % one, "abcdefgh") for one in range(4)), "abcdefgh", ONE)
                              for at in range(8))) for number in range(12))
        program = program_of((houses, ((), "number", ONE)))
        text = shown(program)
        self.assertGreater(len(text), 6000)
        self.assertTrue(text.startswith("house house0 { has field0 abcdefgh has field1 abcdefgh"))
        self.assertTrue(text.endswith("= 1 } main ( ) number = 1"))
        self.assertEqual(text.count("house house"), 12)
        self.assertEqual(text.count("can word"), 96)

    def test_fourteen_deep_reads_as_it(self):
        ways = (lambda one: ("not", one), lambda one: ("two", "+", one, A), lambda one: ("two", ";", A, one),
                lambda one: ("field", one, "n"), lambda one: ("call", one, "w", ()),
                lambda one: ("call", A, "w", (one,)), lambda one: ("new", "h", (one,)),
                lambda one: ("elder", "w", (A, one)), lambda one: ("if", one, A, B), lambda one: ("if", A, B, one),
                lambda one: ("let", "x", one, A), lambda one: ("let", "x", A, one), lambda one: ("set", one, "n", A),
                lambda one: ("set", A, "n", one))
        for leaf in (A, ("new", "h", ()), ("elder", "w", ())):
            for way in ways:
                for other in ways:
                    plain = leaf
                    for number in range(13):
                        plain = (way, other)[number % 2](plain)
                    program = program_of(((), ((), "number", plain)))
                    self.assertEqual(read(shown(program)).plain(), program.plain())


def any_term(chance, deep):
    def inner():
        return any_term(chance, deep - 1)

    def some():
        return tuple(inner() for _ in range(chance.randint(0, 3)))

    if deep == 1 or chance.random() < 0.15:
        return chance.choice([ONE, ("number", 70), ("truth", True), ("truth", False), A, B, SELF])
    return chance.choice([
        lambda: ("new", "h", some()), lambda: ("elder", "w", some()), lambda: ("field", inner(), "n"),
        lambda: ("call", inner(), "w", some()), lambda: ("not", inner()), lambda: ("if", inner(), inner(), inner()),
        lambda: ("let", "x", inner(), inner()), lambda: ("set", inner(), "n", inner()),
        lambda: ("two", chance.choice("+-*/<=;"), inner(), inner())])()


class ManyPrograms(unittest.TestCase):
    def test_what_is_shown_reads_as_it(self):
        chance = random.Random(11)
        for _ in range(300):
            own = tuple(("w", (("p", "truth"),), "h", any_term(chance, 4)) for _ in range(chance.randint(0, 2)))
            plain = ((("h", chance.choice([None, "g"]), (("n", "number"),), own),),
                     ((("x", "number"),), "truth", any_term(chance, 4)))
            program = program_of(plain)
            if sum(body.size() for body in program.bodies()) <= 400 and len(shown(program)) <= 6000:
                self.assertEqual(read(shown(program)).plain(), plain)


if __name__ == "__main__":
    unittest.main()
