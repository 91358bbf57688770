"""Point 7 and the interface's part on building: Terms and Programs made of tuples."""

import unittest

from elderhouse.building import program_of, term_of
from elderhouse.terms import Program, Term

A, ONE, YES, NO, SELF = ("name", "a"), ("number", 1), ("truth", True), ("truth", False), ("self",)

# Each form, with the tuples of its parts from the left.
FORMS = (
    (("number", 0), ()),
    (("number", 999999999), ()),
    (YES, ()),
    (NO, ()),
    (A, ()),
    (SELF, ()),
    (("new", "box", ()), ()),
    (("new", "box", (ONE,)), (ONE,)),
    (("new", "box", (ONE, A, YES)), (ONE, A, YES)),
    (("elder", "get", ()), ()),
    (("elder", "get", (A, ONE)), (A, ONE)),
    (("field", SELF, "n"), (SELF,)),
    (("call", A, "get", ()), (A,)),
    (("call", A, "get", (ONE, SELF, NO)), (A, ONE, SELF, NO)),
    (("not", YES), (YES,)),
    (("two", "+", ONE, A), (ONE, A)),
    (("two", "-", ONE, A), (ONE, A)),
    (("two", "*", ONE, A), (ONE, A)),
    (("two", "/", ONE, A), (ONE, A)),
    (("two", "<", ONE, A), (ONE, A)),
    (("two", "=", ONE, A), (ONE, A)),
    (("two", ";", ONE, A), (ONE, A)),
    (("if", YES, ONE, A), (YES, ONE, A)),
    (("let", "x", ONE, A), (ONE, A)),
    (("set", SELF, "n", ONE), (SELF, ONE)),
)


def same(one, other):
    """Alike, also in kind: 1 and True are not."""
    return one == other and repr(one) == repr(other)


class Terms(unittest.TestCase):
    def tells(self, plain, parts):
        term = term_of(plain)
        self.assertIsInstance(term, Term)
        self.assertTrue(same(term.plain(), plain), plain)
        self.assertIs(type(term.parts()), list)
        for part in term.parts():
            self.assertIsInstance(part, Term)
        self.assertTrue(same(tuple(part.plain() for part in term.parts()), parts), plain)
        return term

    def test_each_form(self):
        self.assertEqual(len({plain[0] for plain, _ in FORMS}), 13)
        for plain, parts in FORMS:
            term = self.tells(plain, parts)
            self.assertEqual(term.depth(), 2 if parts else 1, plain)
            self.assertEqual(term.size(), 1 + len(parts), plain)

    def test_each_form_within_each(self):
        for outer, parts in FORMS:
            for inner, inner_parts in FORMS:
                for place in range(len(parts)):
                    changed = parts[:place] + (inner,) + parts[place + 1:]
                    term = self.tells(put_together(outer, changed), changed)
                    self.assertEqual(term.size(), 1 + len(parts) + len(inner_parts))
                    self.assertEqual(term.depth(), 3 if inner_parts else 2)
                    self.assertTrue(same(term.parts()[place].plain(), inner))

    def test_terms_like_words_and_words_like_forms(self):
        for plain in (("name", "if"), ("let", "set", ("name", "two"), ("name", "not")), ("new", "call", ()),
                      ("field", ("name", "field"), "field"), ("call", ("name", "call"), "new", (("name", "elder"),))):
            self.assertEqual(term_of(plain).plain(), plain)

    def test_deep_and_great(self):
        for deep in (14, 15, 20, 300):
            for outer, parts in FORMS:
                if parts:
                    plain = A
                    for _ in range(deep - 1):
                        plain = put_together(outer, (plain,) + parts[1:])
                    term = term_of(plain)
                    self.assertEqual((term.depth(), term.size()), (deep, 1 + (deep - 1) * len(parts)))
                    self.assertEqual(term.plain(), plain)

    def test_what_is_told_is_the_askers_own(self):
        plain = ("two", "+", ("new", "box", (ONE, A)), A)
        term = term_of(plain)
        told = term.parts()
        told.reverse()
        told.append(term)
        told[0].parts().clear()
        self.assertEqual(term.plain(), plain)
        self.assertEqual([part.plain() for part in term.parts()], [plain[2], A])
        self.assertEqual(term_of(plain).plain(), plain)


def put_together(outer, parts):
    """The outer one with other parts."""
    form = outer[0]
    if form in ("new", "elder"):
        return outer[:2] + (parts,)
    if form == "call":
        return (form, parts[0], outer[2], parts[1:])
    if form in ("field", "set"):
        return (form, parts[0], outer[2]) + parts[1:]
    return outer[:len(outer) - len(parts)] + parts


EMPTY = ((), ((), "number", ONE))
FULL = (
    (("a", None, (("n", "number"), ("t", "truth"), ("b", "b")),
      (("get", (), "number", ("field", SELF, "n")), ("put", (("x", "a"), ("y", "truth")), "b", ("name", "y")))),
     ("b", "a", (), ()),
     ("c", "b", (), (("get", (), "number", ("elder", "get", ())),))),
    ((("p", "number"), ("q", "number")), "truth", ("two", "<", ("name", "p"), ("name", "q"))),
)


class Programs(unittest.TestCase):
    def test_plain_is_what_was_handed_in(self):
        for plain in (EMPTY, FULL, (FULL[0], EMPTY[1]), ((), FULL[1])):
            program = program_of(plain)
            self.assertIsInstance(program, Program)
            self.assertTrue(same(program.plain(), plain))

    def test_bodies(self):
        self.assertEqual([body.plain() for body in program_of(EMPTY).bodies()], [ONE])
        bodies = program_of(FULL).bodies()
        self.assertIs(type(bodies), list)
        for body in bodies:
            self.assertIsInstance(body, Term)
        self.assertEqual([body.plain() for body in bodies],
                         [("field", SELF, "n"), ("name", "y"), ("elder", "get", ()), FULL[1][2]])

    def test_nothing_is_looked_at_but_the_form(self):
        houses = tuple(("a", "a", (("f", "q"),) * 6, (("w", (("p", "z"),) * 6, "z", SELF),) * 10) for _ in range(14))
        plain = (houses, ((("x", "truth"),), "nobody", ("new", "none", (A,) * 12)))
        self.assertEqual(program_of(plain).plain(), plain)
        self.assertEqual(len(program_of(plain).bodies()), 141)

    def test_what_is_told_is_the_askers_own(self):
        program = program_of(FULL)
        program.bodies().clear()
        told = program.bodies()
        told.reverse()
        self.assertEqual(program.plain(), FULL)
        self.assertEqual(len(program.bodies()), 4)
        self.assertEqual(program.bodies()[3].plain(), FULL[1][2])


if __name__ == "__main__":
    unittest.main()
