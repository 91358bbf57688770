"""Points 13 to 16: answers by walking."""

import inspect
import sys
import unittest

import plainly
from samples import WRITTEN, programs

from elderhouse.building import program_of
from elderhouse.checking import kinds_of
from elderhouse.names import need_names
from elderhouse.reading import read
from elderhouse.walking import walked

GREAT, NOUGHT, DRY, DEEP = ("refused", "great"), ("refused", "nought"), ("dry",), ("deep",)
MOST = 10 ** 15


class WalkingCase(unittest.TestCase):
    def program(self, text):
        program = read(text)
        need_names(program)
        kinds_of(program)
        return program

    def walk(self, text, numbers=(), most=100):
        program = self.program(text)
        plain, handed = program.plain(), list(numbers)
        told = walked(program, handed, most)
        self.assertIs(type(told), tuple)
        self.assertEqual(len(told), 3)
        self.assertIs(type(told[0]), tuple)
        self.assertIs(type(told[1]), int)
        self.assertIs(type(told[2]), list)
        self.assertEqual((program.plain(), handed), (plain, list(numbers)))
        return told

    def tells(self, text, answer, calls=0, things=(), numbers=(), most=100):
        told = self.walk(text, numbers, most)
        self.assertEqual(repr(told), repr((answer, calls, list(things))), text)

    def value(self, text, value, numbers=()):
        """Of a main alone that makes no thing."""
        self.tells(text, ("value", value), numbers=numbers)


class EachForm(WalkingCase):
    def test_numbers_and_truths(self):
        self.value("main() number = 0", 0)
        self.value("main() number = 999999999", 999999999)
        self.value("main() truth = yes", True)
        self.value("main() truth = no", False)

    def test_params(self):
        self.value("main(a number) number = a", 7, [7])
        self.value("main(a number) number = a", -MOST, [-MOST])
        self.value("main(a number, b number, c number, d number) number = a - b * c + d", 3 - 5 * 7 + 11, [3, 5, 7, 11])

    def test_signs(self):
        for sign, due in (("+", 9), ("-", 5), ("*", 14), ("/", 3)):
            self.value("main(a number, b number) number = a %s b" % sign, due, [7, 2])
        self.value("main(a number, b number) number = a / b", -4, [-7, 2])
        for a, b in ((1, 2), (2, 2), (3, 2)):
            self.value("main(a number, b number) truth = a < b", a < b, [a, b])
            self.value("main(a number, b number) truth = a = b", a == b, [a, b])
        self.value("main() truth = yes = no", False)
        self.value("main() truth = no = no", True)
        self.value("main() number = yes ; 5", 5)

    def test_refusals_of_numbers(self):
        self.tells("main(a number) number = a + 1", GREAT, numbers=[MOST])
        self.tells("main(a number) number = a - 1", GREAT, numbers=[-MOST])
        self.tells("main(a number) number = a * 2", GREAT, numbers=[MOST // 2 + 1])
        self.value("main(a number) number = a * 2", MOST, [MOST // 2])
        self.tells("main(a number) number = 5 / a", NOUGHT, numbers=[0])
        self.tells("main(a number) number = 0 / a", NOUGHT, numbers=[0])

    def test_not_and_if(self):
        self.value("main() truth = not yes", False)
        self.value("main() truth = not no", True)
        self.value("main(a number) number = if a < 0 then 1 else 2", 1, [-1])
        self.value("main(a number) number = if a < 0 then 1 else 2", 2, [0])

    def test_let(self):
        self.value("main() number = let x = 3 in x * x", 9)
        self.value("main(x number) number = let x = x + 1 in x * 10", 60, [5])
        self.value("main(x number) number = (let x = x + 1 in x) * 100 + x", 605, [5])
        self.value("main() number = let x = 1 in let y = x + 1 in let x = y * 10 in x + y", 22)
        self.value("main() number = let x = (let x = 2 in x * 3) in x + 1", 7)

    def test_things(self):
        self.tells("house a { has n number has t truth } main() a = new a(3, no)", ("thing", "a"), 0,
                   [("a", (3, False))])
        self.tells("house a { } house b of a { } main() a = new b()", ("thing", "b"), 0, [("b", ())])
        self.tells("house a { has n number has t truth } main() truth = new a(3, no).t", ("value", False), 0,
                   [("a", (3, False))])
        self.tells("house a { has n number } house b of a { has m number } main() number = let t = new b(1, 2) in"
                   " t.n * 10 + t.m", ("value", 12), 0, [("b", (1, 2))])

    def test_set(self):
        self.tells("house a { has n number } main() number = let t = new a(1) in (set t.n = 5) * 10 + t.n",
                   ("value", 55), 0, [("a", (5,))])
        self.tells("house a { has n number has m number } main() number = let t = new a(1, 2) in set t.m = t.n + 8",
                   ("value", 9), 0, [("a", (1, 9))])
        self.tells("house a { } house b { has o a } main() a = let t = new b(new a()) in set t.o = new a()",
                   ("thing", "a"), 0, [("a", ()), ("b", (("thing", 2),)), ("a", ())])

    def test_call(self):
        self.tells("house a { has n number can w(x number, y number) number = self.n * 100 + x * 10 + y }"
                   " main() number = new a(1).w(2, 3)", ("value", 123), 1, [("a", (1,))])

    def test_the_elders_call(self):
        self.tells("house a { has n number can w(x number) number = self.n + x }"
                   " house b of a { can w(x number) number = elder.w(x * 10) * 2 } main() number = new b(1).w(2)",
                   ("value", 42), 2, [("b", (1,))])


HOUSES = "house a { has n number can w() number = set self.n = self.n + 1 can mark(x number) number = set self.n =" \
    " self.n * 10 + x } "


class InOrder(WalkingCase):
    """Each part once, from the left: mark writes down the order in which it was called."""

    def marks(self, term, order, house=HOUSES):
        text = house + "main() number = let t = new a(0) in (" + term + ") ; t.n"
        self.assertEqual(self.walk(text)[0], ("value", order), term)

    def test_parts_of_each_form(self):
        self.marks("t.mark(1) + t.mark(2)", 12)
        self.marks("t.mark(1) ; t.mark(2) ; t.mark(3)", 123)
        self.marks("t.mark(1) < t.mark(2) * t.mark(3)", 123)
        self.marks("t.mark(1) = t.mark(2)", 12)
        self.marks("let x = t.mark(1) in t.mark(2)", 12)
        self.marks("new a(t.mark(1)).mark(t.mark(2))", 12)
        self.marks("(t.mark(1) ; t).mark((t.mark(2) ; 3))", 123)
        self.marks("set (t.mark(1) ; new a(0)).n = t.mark(2)", 12)
        self.marks("not (t.mark(1) = 1)", 1)
        two = "house b { has x number has y number } "
        self.marks("new b(t.mark(1), t.mark(2))", 12, HOUSES + two)

    def test_of_an_if_only_the_one_that_is_wanted(self):
        self.marks("if t.mark(1) = 1 then t.mark(2) else t.mark(3)", 12)
        self.marks("if t.mark(1) = 2 then t.mark(2) else t.mark(3)", 13)
        self.value("main() number = if yes then 1 else 1 / 0", 1)
        self.value("main() number = if no then 1 / 0 else 2", 2)

    def test_terms_of_the_elders_call(self):
        text = (HOUSES + "house b { can v(x number, y number) number = x - y } house c of b { has o a"
                " can v(x number, y number) number = elder.v(self.o.mark(1), self.o.mark(2)) }"
                " main() number = let t = new a(0) in new c(t).v(0, 0) ; t.n")
        self.assertEqual(self.walk(text)[0], ("value", 12))

    def test_the_first_refusal_ends_all(self):
        self.tells("main() number = (1 / 0) + (999999999 * 999999999)", NOUGHT)
        self.tells("main() number = (999999999 * 999999999) + (1 / 0)", GREAT)
        self.tells("main() truth = (1 / 0) < (999999999 * 999999999)", NOUGHT)
        self.tells("main() number = let x = 1 / 0 in 999999999 * 999999999", NOUGHT)
        self.tells("main() number = 1 / 0 ; 5", NOUGHT)

    def test_calls_and_things_as_they_stand_then(self):
        self.tells(HOUSES + "main() number = let t = new a(5) in t.w() ; let u = new a(t.n) in t.w() + 1 / 0 + u.w()",
                   NOUGHT, 2, [("a", (7,)), ("a", (6,))])
        self.tells(HOUSES + "main() a = new a(1 / 0)", NOUGHT, 0, [])
        self.tells(HOUSES + "main() number = let t = new a(1) in set t.n = 1 / 0", NOUGHT, 0, [("a", (1,))])
        self.tells(HOUSES + "main() number = new a(1).mark(1 / 0)", NOUGHT, 0, [("a", (1,))])
        self.tells("house a { has n number can w() number = (set self.n = 9) / 0 } main() number = new a(1).w()",
                   NOUGHT, 1, [("a", (9,))])


class Things(WalkingCase):
    def test_numbered_in_the_order_of_making(self):
        self.tells("house a { } house b { has x a has y a } main() b = new b(new a(), new a())", ("thing", "b"), 0,
                   [("a", ()), ("a", ()), ("b", (("thing", 0), ("thing", 1)))])
        self.tells("house a { has n number } main() number = let p = new a(1) in let q = new a(2) in"
                   " q.n * 10 + p.n", ("value", 21), 0, [("a", (1,)), ("a", (2,))])

    def test_set_is_seen_through_another_name(self):
        self.tells("house a { has n number } main() number = let p = new a(1) in let q = p in (set q.n = 5) ; p.n",
                   ("value", 5), 0, [("a", (5,))])
        self.tells("house a { has n number } house b { has o a } main() number = let p = new a(1) in"
                   " let q = new b(p) in (set q.o.n = 6) ; p.n", ("value", 6), 0, [("a", (6,)), ("b", (("thing", 0),))])
        self.tells("house a { has n number can w(x a) number = set x.n = 8 } main() number = let p = new a(1) in"
                   " p.w(p) ; p.n", ("value", 8), 1, [("a", (8,))])

    def test_same(self):
        text = "house a { } house b of a { } house c { } main() truth = let p = new a() in let q = new b() in "
        for term, due in (("p = p", True), ("p = q", False), ("q = q", True), ("q = p", False), ("p = new c()", False),
                          ("(let r = p in r) = p", True), ("new a() = new a()", False),
                          ("(if yes then p else q) = p", True), ("(if yes then p else q) = q", False)):
            self.assertEqual(self.walk(text + term)[0], ("value", due), term)

    def test_same_is_not_of_what_is_in_them(self):
        self.assertEqual(self.walk("house a { has n number } main() truth = new a(1) = new a(1)")[0], ("value", False))

    def test_a_ring_of_things(self):
        self.tells("house a { has o b } house b { has n number } house c of b { has p a } main() number ="
                   " let x = new a(new b(1)) in let y = new c(2, x) in (set x.o = y) ; (set x.o.n = 7) ; y.p.o.n",
                   ("value", 7), 0, [("b", (1,)), ("a", (("thing", 2),)), ("c", (7, ("thing", 1)))])

    def test_as_values_in_calls(self):
        self.tells("house a { has n number can me() a = self can pick(x a) a = x } main() number ="
                   " let p = new a(1) in let q = new a(2) in p.pick(q).me().pick(p).n * 10 + q.pick(q).n",
                   ("value", 12), 4, [("a", (1,)), ("a", (2,))])


class WhichWord(WalkingCase):
    CHAIN = ("house a { can w() number = 1 can v() number = self.w() * 10 can far() number = self.w() * 100 }"
             " house b of a { can w() number = 2 } house c of b { can v() number = elder.v() + elder.w() * 1000 }"
             " house d of c { can w() number = 4 } ")

    def called(self, term, value, calls):
        told = self.walk(self.CHAIN + "main() number = " + term)
        self.assertEqual(told[:2], (("value", value), calls), term)

    def test_by_the_house_of_the_thing_itself(self):
        self.called("new a().w()", 1, 1)
        self.called("new b().w()", 2, 1)
        self.called("new c().w()", 2, 1)
        self.called("new d().w()", 4, 1)
        self.called("new a().v()", 10, 2)
        self.called("new b().v()", 20, 2)
        self.called("new d().far()", 400, 2)
        self.called("(if yes then new d() else new a()).w()", 4, 1)
        self.called("(if no then new d() else new a()).w()", 1, 1)
        self.called("let t = if yes then new b() else new a() in t.v()", 20, 2)

    def test_the_elders_call_on_the_same_self(self):
        # elder.v of c is a's, which calls w of the thing's own house; elder.w of c is b's.
        self.called("new c().v()", 2 * 10 + 2 * 1000, 4)
        self.called("new d().v()", 4 * 10 + 2 * 1000, 4)

    def test_from_where_the_word_stands_not_from_the_things_house(self):
        self.tells("house a { can w() number = 1 } house b of a { can w() number = elder.w() + 10 }"
                   " house c of b { can w() number = elder.w() + 100 } house d of c { } house e of d { }"
                   " main() number = new e().w()", ("value", 111), 3, [("e", ())])

    def test_kept_in_a_field_of_an_elders_kind(self):
        self.tells("house a { can w() number = 1 } house b of a { can w() number = 2 } house c { has o a }"
                   " main() number = let t = new c(new a()) in (set t.o = new b()) ; t.o.w()", ("value", 2), 1,
                   [("a", ()), ("c", (("thing", 2),)), ("b", ())])

    def test_names_of_params_are_the_found_words(self):
        self.tells("house a { can w(x number, y number) number = x }"
                   " house b of a { can w(y number, x number) number = x }"
                   " main() number = new a().w(1, 2) * 10 + new b().w(1, 2)", ("value", 12), 2, [("a", ()), ("b", ())])


COUNT = "house a { can w(n number) number = if n < 1 then 0 else self.w(n - 1) + 1 can one() number = 1 } "


class HowMany(WalkingCase):
    def test_most(self):
        text = COUNT + "main() number = let t = new a() in t.one() + t.one() + t.one()"
        self.tells(text, DRY, 0, [("a", ())], most=0)
        self.tells(text, DRY, 1, [("a", ())], most=1)
        self.tells(text, DRY, 2, [("a", ())], most=2)
        self.tells(text, ("value", 3), 3, [("a", ())], most=3)
        self.tells(text, ("value", 3), 3, [("a", ())], most=4)
        self.tells("main() number = 1", ("value", 1), most=0)

    def test_most_left_out(self):
        text = COUNT + "main(n number) number = let t = new a() in " + " + ".join(["t.w(n)"] * 10)
        program = self.program(text)
        self.assertEqual(walked(program, [9]), (("value", 90), 100, [("a", ())]))
        self.assertEqual(walked(program, [10]), (DRY, 100, [("a", ())]))
        self.assertEqual(walked(program, [10], 109), (DRY, 109, [("a", ())]))
        self.assertEqual(walked(program, [10], 110), (("value", 100), 110, [("a", ())]))

    def test_calls_of_the_elders_count(self):
        text = ("house a { can w() number = 1 } house b of a { can w() number = elder.w() + elder.w() }"
                " main() number = new b().w()")
        for most, due in ((0, (DRY, 0)), (1, (DRY, 1)), (2, (DRY, 2)), (3, (("value", 2), 3))):
            self.assertEqual(self.walk(text, most=most)[:2], due)

    def test_it_counts_when_thing_and_terms_are_known(self):
        self.tells("house a { can w(x number) number = x } main() number = new a().w(1 / 0)", NOUGHT, 0, [("a", ())],
                   most=0)
        self.tells("house a { can w(x number) number = x can v() number = 5 } main() number = let t = new a() in"
                   " t.w(t.v())", DRY, 1, [("a", ())], most=1)

    def test_forty_within_each_other(self):
        text = COUNT + "main(n number) number = new a().w(n)"
        self.tells(text, ("value", 39), 40, [("a", ())], [39])
        self.tells(text, DEEP, 41, [("a", ())], [40])
        self.tells(text, DEEP, 41, [("a", ())], [1000])

    def test_dry_comes_ahead_of_deep(self):
        text = COUNT + "main(n number) number = new a().w(n)"
        self.tells(text, DRY, 40, [("a", ())], [40], most=40)
        self.tells(text, DEEP, 41, [("a", ())], [40], most=41)
        self.tells(text, ("value", 39), 40, [("a", ())], [39], most=40)

    def test_a_call_beside_one_that_has_ended_is_not_within_it(self):
        text = COUNT + "main(n number) number = let t = new a() in t.w(n) + t.w(n) + t.w(n)"
        self.tells(text, ("value", 117), 120, [("a", ())], [39], most=1000)
        self.tells(text, DEEP, 41, [("a", ())], [40], most=1000)
        self.tells(COUNT + "main(n number) number = new a().w(new a().w(new a().w(n)))", ("value", 39), 120,
                   [("a", ()), ("a", ()), ("a", ())], [39], most=1000)

    def test_of_both_sorts_within_each_other(self):
        text = ("house a { can w(n number) number = if n < 1 then 0 else self.w(n - 1) + 1 }"
                " house b of a { can w(n number) number = elder.w(n) } main(n number) number = new b().w(n)")
        self.tells(text, ("value", 19), 40, [("b", ())], [19])
        self.tells(text, DEEP, 41, [("b", ())], [20])

    def test_forty_calls_fourteen_deep(self):
        deep = "self.w(n - 1)"
        for _ in range(5):
            deep = "not not (" + deep + ")"
        text = ("house a { can w(n number) truth = if n < 1 then yes else " + deep + " }"
                " main(n number) truth = new a().w(n)")
        before = sys.getrecursionlimit()
        sys.setrecursionlimit(len(inspect.stack()) + 150)
        try:
            program = read(text)
            self.assertEqual(program.bodies()[0].depth(), 14)
            self.assertEqual(walked(program, [39]), (("value", True), 40, [("a", ())]))
            self.assertEqual(walked(program, [40]), (DEEP, 41, [("a", ())]))
        finally:
            sys.setrecursionlimit(before)


class ManyPrograms(WalkingCase):
    def test_written_ones(self):
        for text, numbers in WRITTEN:
            program = self.program(text)
            for most in (0, 1, 2, 5, 100):
                due = plainly.walked(program.plain(), numbers, most)
                self.assertEqual(repr(walked(program, numbers, most)), repr(due), text)

    def test_those_that_chance_tells(self):
        sorts = set()
        for program, numbers in programs(400):
            need_names(program)
            kinds_of(program)
            for most in (3, 100):
                due = plainly.walked(program.plain(), numbers, most)
                self.assertEqual(repr(walked(program, numbers, most)), repr(due), program.plain())
                sorts.add(due[0] if due[0][0] == "refused" else due[0][0])
        self.assertEqual(sorts, {"value", "thing", GREAT, NOUGHT, "dry", "deep"})

    def test_again_and_again(self):
        program = self.program(HOUSES + "main(x number) number = let t = new a(x) in t.w() ; t.mark(3)")
        numbers = [4]
        one = walked(program, numbers)
        one[2].append("more")
        other = walked(program, numbers)
        self.assertEqual(other, (("value", 53), 2, [("a", (53,))]))
        numbers[0] = 9
        self.assertEqual(other, (("value", 53), 2, [("a", (53,))]))
        self.assertEqual(walked(program, numbers)[0], ("value", 103))

    def test_built_or_read(self):
        for text, numbers in WRITTEN:
            program = self.program(text)
            self.assertEqual(walked(program_of(program.plain()), numbers), walked(program, numbers))


if __name__ == "__main__":
    unittest.main()
