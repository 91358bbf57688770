"""Points 6 and 7: terms and programs, told as tuples, their parts, how deep and how great they are."""

import unittest

from elderhouse.terms import House, Program, Term, Word


def number(value):
    return Term("number", value, [])


def name(word):
    return Term("name", word, [])


ONE, TWO, THREE = number(1), number(2), number(3)
P1, P2, P3 = ("number", 1), ("number", 2), ("number", 3)
SELF = Term("self", None, [])

# Form, label, parts, the tuple told of it.
FORMS = (
    ("number", 0, [], ("number", 0)),
    ("number", 999999999, [], ("number", 999999999)),
    ("truth", True, [], ("truth", True)),
    ("truth", False, [], ("truth", False)),
    ("name", "x", [], ("name", "x")),
    ("self", None, [], ("self",)),
    ("new", "box", [], ("new", "box", ())),
    ("new", "box", [ONE], ("new", "box", (P1,))),
    ("new", "box", [ONE, TWO, THREE], ("new", "box", (P1, P2, P3))),
    ("elder", "get", [], ("elder", "get", ())),
    ("elder", "get", [ONE], ("elder", "get", (P1,))),
    ("elder", "get", [ONE, TWO], ("elder", "get", (P1, P2))),
    ("field", "n", [ONE], ("field", P1, "n")),
    ("call", "get", [ONE], ("call", P1, "get", ())),
    ("call", "get", [ONE, TWO], ("call", P1, "get", (P2,))),
    ("call", "get", [ONE, TWO, THREE], ("call", P1, "get", (P2, P3))),
    ("not", None, [ONE], ("not", P1)),
    ("two", "+", [ONE, TWO], ("two", "+", P1, P2)),
    ("two", "-", [ONE, TWO], ("two", "-", P1, P2)),
    ("two", "*", [ONE, TWO], ("two", "*", P1, P2)),
    ("two", "/", [ONE, TWO], ("two", "/", P1, P2)),
    ("two", "<", [ONE, TWO], ("two", "<", P1, P2)),
    ("two", "=", [ONE, TWO], ("two", "=", P1, P2)),
    ("two", ";", [ONE, TWO], ("two", ";", P1, P2)),
    ("if", None, [ONE, TWO, THREE], ("if", P1, P2, P3)),
    ("let", "x", [ONE, TWO], ("let", "x", P1, P2)),
    ("set", "n", [ONE, TWO], ("set", P1, "n", P2)),
)


def kinds_deep(value):
    """The value's kinds, all through, since 1 == True and lists should be no tuples."""
    if isinstance(value, tuple):
        return [tuple, [kinds_deep(part) for part in value]]
    return type(value)


class TermsCase(unittest.TestCase):
    def tells(self, told, wanted):
        self.assertEqual(told, wanted)
        self.assertEqual(kinds_deep(told), kinds_deep(wanted))


class EachForm(TermsCase):
    def test_all_thirteen_are_here(self):
        self.assertEqual(len({form for form, _, _, _ in FORMS}), 13)

    def test_plain(self):
        for form, label, parts, wanted in FORMS:
            self.tells(Term(form, label, parts).plain(), wanted)

    def test_parts_from_the_left(self):
        for form, label, parts, wanted in FORMS:
            told = Term(form, label, parts).parts()
            self.assertIs(type(told), list, wanted)
            self.assertEqual([part.plain() for part in told], [part.plain() for part in parts], wanted)
            for part in told:
                self.assertIsInstance(part, Term)

    def test_depth(self):
        for form, label, parts, wanted in FORMS:
            told = Term(form, label, parts).depth()
            self.tells(told, 2 if parts else 1)

    def test_size(self):
        for form, label, parts, wanted in FORMS:
            self.tells(Term(form, label, parts).size(), 1 + len(parts))


class TermsInTerms(TermsCase):
    def deep(self):
        thing = Term("field", "left", [Term("new", "pair", [name("a"), Term("two", "*", [TWO, name("b")])])])
        call = Term("call", "get", [thing, Term("not", None, [Term("truth", True, [])]), THREE])
        choice = Term("if", None, [Term("two", "<", [ONE, TWO]), call, Term("elder", "get", [SELF, ONE])])
        return Term("let", "x", [choice, Term("set", "n", [SELF, name("x")])])

    def test_plain(self):
        self.tells(self.deep().plain(), (
            "let", "x",
            ("if", ("two", "<", P1, P2),
             ("call", ("field", ("new", "pair", (("name", "a"), ("two", "*", P2, ("name", "b")))), "left"), "get",
              (("not", ("truth", True)), P3)),
             ("elder", "get", (("self",), P1))),
            ("set", ("self",), "n", ("name", "x"))))

    def test_depth_and_size(self):
        term = self.deep()
        self.assertEqual(term.depth(), 7)
        self.assertEqual(term.size(), 21)
        choice, put = term.parts()
        self.assertEqual((choice.depth(), choice.size()), (6, 17))
        self.assertEqual((put.depth(), put.size()), (2, 3))
        less, call, elder = choice.parts()
        self.assertEqual((less.depth(), less.size()), (2, 3))
        self.assertEqual((call.depth(), call.size()), (5, 10))
        self.assertEqual((elder.depth(), elder.size()), (2, 3))

    def test_parts_are_terms_as_they_stand_in_it(self):
        choice, put = self.deep().parts()
        self.assertEqual(put.plain(), ("set", ("self",), "n", ("name", "x")))
        thing, truth, three = choice.parts()[1].parts()
        self.assertEqual(thing.plain()[0], "field")
        self.assertEqual(truth.plain(), ("not", ("truth", True)))
        self.assertEqual(three.plain(), P3)

    def test_the_deepest_part_counts_wherever_it_stands(self):
        deepest = Term("not", None, [Term("not", None, [ONE])])
        for form, label, parts, wanted in FORMS:
            for place in range(len(parts)):
                term = Term(form, label, parts[:place] + [deepest] + parts[place + 1:])
                self.assertEqual((term.depth(), term.size()), (4, 3 + len(parts)), wanted)
                self.assertEqual(term.parts()[place].plain(), deepest.plain())

    def test_all_terms_are_counted_not_only_the_deepest(self):
        pair = Term("two", "+", [ONE, TWO])
        term = Term("if", None, [pair, pair, Term("two", "-", [pair, THREE])])
        self.assertEqual((term.depth(), term.size()), (4, 12))

    def test_fourteen_deep_and_beyond(self):
        for wanted in (14, 15, 40):
            term = ONE
            for _ in range(wanted - 1):
                term = Term("not", None, [term])
            self.assertEqual((term.depth(), term.size()), (wanted, wanted))

    def test_no_text_can_tell_too_deep_a_term(self):
        term = ONE
        for _ in range(6000):
            term = Term("two", "+", [term, TWO])
        self.assertEqual((term.depth(), term.size()), (6001, 12001))
        self.assertEqual(term.plain()[3], P2)


class NothingIsShared(TermsCase):
    def test_a_list_that_parts_told(self):
        for form, label, parts, wanted in FORMS:
            term = Term(form, label, parts)
            around = Term("not", None, [term])
            told = term.parts()
            told.append(SELF)
            told[0] = Term("not", None, [SELF])
            self.tells(term.plain(), wanted)
            self.assertEqual([part.plain() for part in term.parts()], [part.plain() for part in parts])
            self.assertEqual((term.depth(), term.size()), (2 if parts else 1, 1 + len(parts)))
            self.tells(around.plain(), ("not", wanted))
            self.assertEqual((around.depth(), around.size()), (term.depth() + 1, term.size() + 1))
            told = term.parts()
            del told[:]
            self.assertEqual(len(term.parts()), len(parts))

    def test_what_was_told_stays(self):
        term = Term("new", "box", [ONE, TWO])
        first, plain = term.parts(), term.plain()
        second = term.parts()
        second.reverse()
        self.assertEqual([part.plain() for part in first], [P1, P2])
        self.assertEqual(plain, ("new", "box", (P1, P2)))

    def test_a_list_that_was_handed_in(self):
        parts = [ONE, TWO]
        term = Term("new", "box", parts)
        self.assertEqual(parts, [ONE, TWO])
        parts.append(THREE)
        parts[0] = SELF
        self.assertEqual(term.plain(), ("new", "box", (P1, P2)))
        self.assertEqual([part.plain() for part in term.parts()], [P1, P2])
        self.assertEqual((term.depth(), term.size()), (2, 3))


def no_house():
    return Program([], Word("main", [], "number", ONE))


def one_house():
    get = Word("get", [], "number", Term("field", "n", [SELF]))
    plus = Word("plus", [("a", "number"), ("b", "truth")], "box", SELF)
    box = House("box", None, [("n", "number"), ("t", "truth")], [get, plus])
    return Program([box], Word("main", [("x", "number")], "truth", Term("truth", True, [])))


def several_houses():
    first = House("a", None, [], [Word("w", [], "number", number(10)), Word("v", [], "a", number(11))])
    second = House("b", "a", [("f", "a")], [])
    third = House("c", "b", [], [Word("w", [("p", "c")], "number", number(30))])
    main = Word("main", [("x", "number"), ("y", "number")], "c", Term("two", ";", [number(90), number(91)]))
    return Program([first, second, third], main)


class Programs(TermsCase):
    def bodies_tell(self, program, wanted):
        told = program.bodies()
        self.assertIs(type(told), list)
        for body in told:
            self.assertIsInstance(body, Term)
        self.tells(tuple([body.plain() for body in told]), wanted)

    def test_no_house(self):
        self.tells(no_house().plain(), ((), ((), "number", P1)))
        self.bodies_tell(no_house(), (P1,))

    def test_one_house(self):
        self.tells(one_house().plain(), (
            (("box", None, (("n", "number"), ("t", "truth")),
              (("get", (), "number", ("field", ("self",), "n")),
               ("plus", (("a", "number"), ("b", "truth")), "box", ("self",)))),),
            ((("x", "number"),), "truth", ("truth", True))))
        self.bodies_tell(one_house(), (("field", ("self",), "n"), ("self",), ("truth", True)))

    def test_several_houses(self):
        self.tells(several_houses().plain(), (
            (("a", None, (), (("w", (), "number", ("number", 10)), ("v", (), "a", ("number", 11)))),
             ("b", "a", (("f", "a"),), ()),
             ("c", "b", (), (("w", (("p", "c"),), "number", ("number", 30)),))),
            ((("x", "number"), ("y", "number")), "c", ("two", ";", ("number", 90), ("number", 91)))))
        self.bodies_tell(several_houses(), (("number", 10), ("number", 11), ("number", 30),
                                            ("two", ";", ("number", 90), ("number", 91))))

    def test_a_house_without_anything(self):
        program = Program([House("a", None, [], [])], Word("main", [], "a", Term("new", "a", [])))
        self.tells(program.plain(), ((("a", None, (), ()),), ((), "a", ("new", "a", ()))))
        self.bodies_tell(program, (("new", "a", ()),))

    def test_a_list_that_bodies_told(self):
        for program in (no_house(), one_house(), several_houses()):
            plain, bodies = program.plain(), [body.plain() for body in program.bodies()]
            told = program.bodies()
            told.reverse()
            told.append(THREE)
            told[0] = SELF
            self.tells(program.plain(), plain)
            self.assertEqual([body.plain() for body in program.bodies()], bodies)

    def test_lists_that_were_handed_in(self):
        params, fields, pair = [("p", "number")], [("f", "number")], ["g", "truth"]
        fields.append(pair)
        own = [Word("w", params, "number", ONE)]
        houses = [House("a", None, fields, own)]
        program = Program(houses, Word("main", params, "number", TWO))
        wanted = ((("a", None, (("f", "number"), ("g", "truth")), (("w", (("p", "number"),), "number", P1),)),),
                  ((("p", "number"),), "number", P2))
        self.tells(program.plain(), wanted)
        pair[0] = "other"
        for handed in (params, fields, own, houses):
            handed.pop()
            self.tells(program.plain(), wanted)
        self.bodies_tell(program, (P1, P2))


if __name__ == "__main__":
    unittest.main()
