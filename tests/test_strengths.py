"""Point 5: how terms bind."""

import itertools
import unittest

from grammar import readings

from elderhouse.errors import BadForm
from elderhouse.reading import read

A, B, C, D, E, X = [("name", word) for word in "abcdex"]
ONE = ("number", 1)
STRENGTH = {";": 1, "<": 2, "=": 2, "+": 3, "-": 3, "*": 4, "/": 4}


def two(sign, one, other):
    return ("two", sign, one, other)


class StrengthsCase(unittest.TestCase):
    def term(self, text, plain):
        self.assertEqual(read("main() number = " + text).plain()[1][2], plain, text)
        self.assertEqual(read("house h { can w() number = " + text + " } main() number = 1").bodies()[0].plain(), plain)

    def alike(self, text, bracketed):
        self.term(text, read("main() number = " + bracketed).plain()[1][2])

    def refused(self, text):
        with self.assertRaises(BadForm, msg=text):
            read("main() number = " + text)


class Signs(StrengthsCase):
    def test_each_two_in_both_orders(self):
        left = {";;": False, "++": True, "+-": True, "-+": True, "--": True, "**": True, "*/": True, "/*": True,
                "//": True}
        for one in STRENGTH:
            for other in STRENGTH:
                text = "a %s b %s c" % (one, other)
                if one in "<=" and other in "<=":
                    self.refused(text)
                elif left.get(one + other, STRENGTH[one] > STRENGTH[other]):
                    self.term(text, two(other, two(one, A, B), C))
                else:
                    self.term(text, two(one, A, two(other, B, C)))

    def test_brackets_say_otherwise(self):
        for one in STRENGTH:
            for other in STRENGTH:
                self.term("(a %s b) %s c" % (one, other), two(other, two(one, A, B), C))
                self.term("a %s (b %s c)" % (one, other), two(one, A, two(other, B, C)))

    def test_the_written_ones(self):
        self.term("a - b - c - d", two("-", two("-", two("-", A, B), C), D))
        self.term("a / b / c / d", two("/", two("/", two("/", A, B), C), D))
        self.term("a ; b ; c ; d", two(";", A, two(";", B, two(";", C, D))))
        self.term("a + b * c - d", two("-", two("+", A, two("*", B, C)), D))
        self.term("a * b + c * d", two("+", two("*", A, B), two("*", C, D)))
        self.term("a + b < c * d", two("<", two("+", A, B), two("*", C, D)))
        self.term("a ; b = c + d ; e", two(";", A, two(";", two("=", B, two("+", C, D)), E)))

    def test_less_and_same_side_by_side(self):
        for one, other in itertools.product("<=", repeat=2):
            self.refused("a %s b %s c" % (one, other))
            self.refused("a %s b + c %s d" % (one, other))
            self.refused("a * b %s c %s d - e" % (one, other))
            self.refused("d ; a %s b %s c" % (one, other))
            self.refused("a %s not b %s c" % (one, other))
            self.refused("if a %s b %s c then d else e" % (one, other))
            self.refused("if a then b else c %s d %s e" % (one, other))
            self.refused("let x = 1 in a %s b %s c" % (one, other))
            self.refused("set a . b = c %s d %s e" % (one, other))
            self.refused("(a) %s (b) %s (c)" % (one, other))
            self.refused("new h(a %s b %s c)" % (one, other))
            self.term("a %s b ; c %s d" % (one, other), two(";", two(one, A, B), two(other, C, D)))
            self.term("(a %s b) %s c" % (one, other), two(other, two(one, A, B), C))
            self.term("a %s (b %s c)" % (one, other), two(one, A, two(other, B, C)))

    def test_less_and_same_in_parts_of_one_another(self):
        self.term("a < if b then c else d < e", two("<", A, ("if", B, C, two("<", D, E))))
        self.term("a = let x = b = c in d = e", two("=", A, ("let", "x", two("=", B, C), two("=", D, E))))
        self.term("a = set b . c = d = e", two("=", A, ("set", B, "c", two("=", D, E))))
        self.term("a < b . c(d < e)", two("<", A, ("call", B, "c", (two("<", D, E),))))
        self.term("if a < b then c = d else e", ("if", two("<", A, B), two("=", C, D), E))

    def test_all_rows_of_four_signs(self):
        for signs in itertools.product(";<=+*", repeat=4):
            row = list("abcde")
            for place, sign in enumerate(signs):
                row.insert(2 * place + 1, sign)
            due = readings(row)
            self.assertLessEqual(len(due), 1)
            if due:
                self.term(" ".join(row), due[0])
            else:
                self.refused(" ".join(row))


class NotAndPoints(StrengthsCase):
    def test_not_ahead_of_each_sign(self):
        for sign in STRENGTH:
            self.term("not a %s b" % sign, two(sign, ("not", A), B))
            self.term("not (a %s b)" % sign, ("not", two(sign, A, B)))
            self.term("a %s not b" % sign, two(sign, A, ("not", B)))
            self.term("not a %s not b" % sign, two(sign, ("not", A), ("not", B)))

    def test_not_ahead_of_each_sort_of_term(self):
        self.term("not not a", ("not", ("not", A)))
        self.term("not not not a", ("not", ("not", ("not", A))))
        self.term("not 1", ("not", ONE))
        self.term("not yes", ("not", ("truth", True)))
        self.term("not self", ("not", ("self",)))
        self.term("not new h()", ("not", ("new", "h", ())))
        self.term("not elder.w()", ("not", ("elder", "w", ())))
        self.term("not a.b", ("not", ("field", A, "b")))
        self.term("not a.b()", ("not", ("call", A, "b", ())))
        self.term("not a.b.c", ("not", ("field", ("field", A, "b"), "c")))
        self.term("not if a then b else c", ("not", ("if", A, B, C)))
        self.term("not let x = a in b", ("not", ("let", "x", A, B)))
        self.term("not set a.b = c", ("not", ("set", A, "b", C)))
        self.term("not (a ; b)", ("not", two(";", A, B)))

    def test_points_behind_each_sort_of_term(self):
        closest = {"1": ONE, "yes": ("truth", True), "no": ("truth", False), "a": A, "self": ("self",),
                   "new h()": ("new", "h", ()), "new h(a)": ("new", "h", (A,)), "elder.w()": ("elder", "w", ()),
                   "elder.w(a)": ("elder", "w", (A,)), "a.b": ("field", A, "b"), "a.b()": ("call", A, "b", ()),
                   "(a + b)": two("+", A, B), "(not a)": ("not", A), "(if a then b else c)": ("if", A, B, C),
                   "(let x = a in b)": ("let", "x", A, B), "(set a.b = c)": ("set", A, "b", C)}
        for text, plain in closest.items():
            self.term(text + ".e", ("field", plain, "e"))
            self.term(text + ".e()", ("call", plain, "e", ()))
            self.term(text + ".e(a, b)", ("call", plain, "e", (A, B)))
            self.term(text + ".e.d().c", ("field", ("call", ("field", plain, "e"), "d", ()), "c"))

    def test_points_bind_closer_than_all_else(self):
        for sign in STRENGTH:
            self.term("a %s b.c" % sign, two(sign, A, ("field", B, "c")))
            self.term("a.c %s b" % sign, two(sign, ("field", A, "c"), B))
            self.term("a %s b.c()" % sign, two(sign, A, ("call", B, "c", ())))
            self.term("(a %s b).c" % sign, ("field", two(sign, A, B), "c"))
        self.term("if a then b else c.d", ("if", A, B, ("field", C, "d")))
        self.term("let x = a in b.c", ("let", "x", A, ("field", B, "c")))
        self.term("set a.b = c.d", ("set", A, "b", ("field", C, "d")))


ENDINGS = {
    "if a then b else c": ("if", A, B, C),
    "let x = a in b": ("let", "x", A, B),
    "set a.b = c": ("set", A, "b", C),
}


class IfLetSet(StrengthsCase):
    def test_as_last_part_behind_each_sign(self):
        for text, plain in ENDINGS.items():
            for sign in STRENGTH:
                self.term("d %s %s" % (sign, text), two(sign, D, plain))
                self.term("d %s not %s" % (sign, text), two(sign, D, ("not", plain)))
                self.term("d + d %s %s" % (sign, text),
                          read("main() number = d + d %s (%s)" % (sign, text)).plain()[1][2])

    def test_behind_not_in_brackets_in_calls(self):
        for text, plain in ENDINGS.items():
            self.term("not " + text, ("not", plain))
            self.term("not not " + text, ("not", ("not", plain)))
            self.term("(" + text + ")", plain)
            self.term("new h(" + text + ")", ("new", "h", (plain,)))
            self.term("new h(" + text + ", " + text + ")", ("new", "h", (plain, plain)))
            self.term("elder.w(d, " + text + ")", ("elder", "w", (D, plain)))
            self.term("e.w(" + text + ", d)", ("call", E, "w", (plain, D)))
            self.term("(" + text + ").e", ("field", plain, "e"))

    def test_within_one_another(self):
        for text, plain in ENDINGS.items():
            self.term("if " + text + " then d else e", ("if", plain, D, E))
            self.term("if d then " + text + " else e", ("if", D, plain, E))
            self.term("if d then e else " + text, ("if", D, E, plain))
            self.term("let x = " + text + " in d", ("let", "x", plain, D))
            self.term("let x = d in " + text, ("let", "x", D, plain))
            self.term("set d.e = " + text, ("set", D, "e", plain))

    def test_as_far_to_the_right_as_can_be(self):
        for sign in "<=+-*/":
            self.term("if a then b else c %s d" % sign, ("if", A, B, two(sign, C, D)))
            self.term("let x = a in b %s d" % sign, ("let", "x", A, two(sign, B, D)))
            self.term("set a.b = c %s d" % sign, ("set", A, "b", two(sign, C, D)))
            self.term("e * if a then b else c %s d" % sign, two("*", E, ("if", A, B, two(sign, C, D))))
            self.term("e * let x = a in b %s d" % sign, two("*", E, ("let", "x", A, two(sign, B, D))))
            self.term("not set a.b = c %s d" % sign, ("not", ("set", A, "b", two(sign, C, D))))
            self.term("(if a then b else c) %s d" % sign, two(sign, ("if", A, B, C), D))

    def test_never_ahead_of_a_sign(self):
        # What follows a whole < or = could only be the sign behind the if, let or set.
        for text in ENDINGS:
            self.refused(text + " < d = e")
            self.refused("d + " + text + " = e < d")

    def test_any_term_stands_between_their_words(self):
        many = two(";", D, two(";", E, D))
        self.term("if d ; e ; d then b else c", ("if", many, B, C))
        self.term("if a then d ; e ; d else c", ("if", A, many, C))
        self.term("let x = d ; e ; d in b", ("let", "x", many, B))
        self.term("new h(d ; e ; d, 1)", ("new", "h", (many, ONE)))
        self.term("(d ; e ; d) + 1", two("+", many, ONE))
        self.term("if a then let x = b in c ; d else e", ("if", A, ("let", "x", B, two(";", C, D)), E))
        self.term("let x = let y = a in b ; c in d", ("let", "x", ("let", "y", A, two(";", B, C)), D))


class Ends(StrengthsCase):
    """Where the last term of an if, a set or a let ends."""

    def test_if_and_set_end_ahead_of_a_semicolon(self):
        self.term("if a then b else c ; d", two(";", ("if", A, B, C), D))
        self.term("set a.b = c ; d", two(";", ("set", A, "b", C), D))
        self.term("if a then b else c ; d ; e", two(";", ("if", A, B, C), two(";", D, E)))
        self.term("e + if a then b else c + e ; d", two(";", two("+", E, ("if", A, B, two("+", C, E))), D))
        self.term("not set a.b = c ; d", two(";", ("not", ("set", A, "b", C)), D))
        self.term("e ; if a then b else c ; d", two(";", E, two(";", ("if", A, B, C), D)))
        self.term("set a.b = set c.d = e ; a", two(";", ("set", A, "b", ("set", C, "d", E)), A))
        self.term("if a then b else if c then d else e ; a", two(";", ("if", A, B, ("if", C, D, E)), A))
        self.term("if a then b else set c.d = e ; a", two(";", ("if", A, B, ("set", C, "d", E)), A))

    def test_a_let_that_ends_there_too(self):
        let = ("let", "x", C, D)
        self.term("if a then b else let x = c in d ; e", two(";", ("if", A, B, let), E))
        self.term("set a.b = let x = c in d ; e", two(";", ("set", A, "b", let), E))
        self.term("if a then b else 1 + let x = c in d ; e", two(";", ("if", A, B, two("+", ONE, let)), E))
        self.term("if a then b else not let x = c in d ; e", two(";", ("if", A, B, ("not", let)), E))
        self.term("if a then b else 1 < not let x = c in d ; e", two(";", ("if", A, B, two("<", ONE, ("not", let))), E))
        self.term("if a then b else let y = 1 in let x = c in d ; e",
                  two(";", ("if", A, B, ("let", "y", ONE, let)), E))
        self.term("if a then b else set a.b = let x = c in d ; e", two(";", ("if", A, B, ("set", A, "b", let)), E))
        self.term("if a then b else if a then b else let x = c in d ; e",
                  two(";", ("if", A, B, ("if", A, B, let)), E))
        self.term("1 + if a then b else let x = c in d ; e", two(";", two("+", ONE, ("if", A, B, let)), E))
        self.term("let y = 1 in if a then b else let x = c in d ; e",
                  ("let", "y", ONE, two(";", ("if", A, B, let), E)))

    def test_a_let_elsewhere_goes_on(self):
        let = ("let", "x", C, two(";", D, E))
        self.term("let x = c in d ; e", let)
        self.term("a ; let x = c in d ; e", two(";", A, let))
        self.term("1 + let x = c in d ; e", two("+", ONE, let))
        self.term("1 < 1 * let x = c in d ; e", two("<", ONE, two("*", ONE, let)))
        self.term("not let x = c in d ; e", ("not", let))
        self.term("let y = a in let x = c in d ; e", ("let", "y", A, let))
        self.term("(let x = c in d ; e)", let)
        self.term("if a then b else (let x = c in d ; e)", ("if", A, B, let))
        self.term("set a.b = (let x = c in d ; e)", ("set", A, "b", let))
        self.term("if a then b else new h(let x = c in d ; e)", ("if", A, B, ("new", "h", (let,))))
        self.term("set a.b = a.w(b, let x = c in d ; e)", ("set", A, "b", ("call", A, "w", (B, let))))
        self.term("if a then b else if let x = c in d ; e then a else b", ("if", A, B, ("if", let, A, B)))
        self.term("if a then b else if a then let x = c in d ; e else b", ("if", A, B, ("if", A, let, B)))
        self.term("set a.b = let y = let x = c in d ; e in b", ("set", A, "b", ("let", "y", let, B)))
        self.term("(let x = c in d) ; e", two(";", ("let", "x", C, D), E))
        self.term("if a then b else c ; let x = c in d ; e", two(";", ("if", A, B, C), let))
        self.term("set a.b = elder.w(let x = c in d ; e).f", ("set", A, "b", ("field", ("elder", "w", (let,)), "f")))


class Sets(StrengthsCase):
    def test_what_may_be_set(self):
        things = {"a": A, "a.c": ("field", A, "c"), "a.w()": ("call", A, "w", ()), "self": ("self",), "1": ONE,
                  "new h(a)": ("new", "h", (A,)), "elder.w()": ("elder", "w", ()), "(a)": A, "(a.c)": ("field", A, "c"),
                  "(a + c)": two("+", A, C), "(a ; c)": two(";", A, C), "a.w(b).c.v()":
                  ("call", ("field", ("call", A, "w", (B,)), "c"), "v", ()), "((a))": A,
                  "(set a.b = c)": ("set", A, "b", C)}
        for text, plain in things.items():
            self.term("set " + text + ".b = d", ("set", plain, "b", D))
            put = ("set", plain, "b", two("+", D, E))
            self.term("1 ; set " + text + ".b = d + e ; 1", two(";", ONE, two(";", put, ONE)))

    def test_what_may_not(self):
        for text in ("a", "1", "yes", "self", "a.w()", "a.b.w(c)", "new h()", "elder.w()", "elder.f", "(a.b)",
                     "((a.b))", "(a).w()", "(a)", "not a.b", "a + a.b", "a.b + c", "-a.b", "if a then b else c.d",
                     "let x = a in a.b", "set a.b", "(set a.b)", "a.1", "a.", ".b", "", "(self.b)", "(new h().b)"):
            self.refused("set " + text + " = d")
            self.refused("(set " + text + " = d)")
        for text in ("set a.b", "set a.b d", "set a.b =", "set a.b ; c", "set a.b + 1 = c", "set a.b = ; c", "set = c"):
            self.refused(text)


if __name__ == "__main__":
    unittest.main()
