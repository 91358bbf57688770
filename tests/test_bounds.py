"""Point 6: how deep a body may be, how many terms there may be, how many brackets may stand open."""

import inspect
import sys
import unittest

from elderhouse.errors import BadForm
from elderhouse.reading import read

# Each way to put a term into one that is one deeper, and how many more terms it makes.
DEEPER = (
    ("not %s", 1),
    ("%s + 1", 2),
    ("1 + (%s)", 2),
    ("%s . f", 1),
    ("%s . w ( )", 1),
    ("1 . w ( %s )", 2),
    ("1 . w ( 1 , %s , 1 )", 4),
    ("new h ( %s )", 1),
    ("new h ( 1 , %s )", 2),
    ("elder . w ( %s )", 1),
    ("elder . w ( %s , 1 )", 2),
    ("if %s then 1 else 1", 3),
    ("if 1 then %s else 1", 3),
    ("if 1 then 1 else %s", 3),
    ("let x = %s in 1", 2),
    ("let x = 1 in %s", 2),
    ("set 1 . f = %s", 2),
    ("1 ; %s", 2),
    ("( %s ) ; 1", 2),
    ("set ( %s ) . f = 1", 2),
    ("( %s ) - 1", 2),
)


class BoundsCase(unittest.TestCase):
    def refused(self, text):
        self.assertLessEqual(len(text), 6000)
        with self.assertRaises(BadForm, msg=text[:60]):
            read(text)

    def term(self, text):
        return read("main() number = " + text).bodies()[0]


def nested(way, times):
    """The way within itself, without brackets where it can do without."""
    text = "1"
    for _ in range(times):
        if way.startswith("%s "):
            text = text + way[2:]
        else:
            text = way.replace("%s", text)
    return text


class Depth(BoundsCase):
    def test_each_form(self):
        for way, more in DEEPER:
            for times in range(14):
                term = self.term(nested(way, times))
                self.assertEqual((term.depth(), term.size()), (1 + times, 1 + times * more), way)

    def test_fifteen_are_refused(self):
        for way, _ in DEEPER:
            for times in (14, 15, 20):
                self.refused("main() number = " + nested(way, times))
            self.assertEqual(self.term("not ( " + nested(way, 12) + " )").depth(), 14, way)
            self.refused("main() number = not not ( " + nested(way, 12) + " )")

    def test_of_any_body(self):
        for way in ("not %s", "%s + 1", "%s . f"):
            self.in_any_body(nested(way, 13), nested(way, 14))

    def in_any_body(self, good, bad):
        read("house h { can w() a = " + good + " can v() a = " + good + " } main() a = " + good)
        self.refused("house h { can w() a = " + bad + " can v() a = 1 } main() a = 1")
        self.refused("house h { can w() a = 1 can v() a = " + bad + " } main() a = 1")
        self.refused("house g { } house h { can w() a = 1 } house i { can w() a = " + bad + " } main() a = 1")
        self.refused("house h { can w() a = 1 can v() a = 1 } main() a = " + bad)

    def test_the_deepest_part_counts(self):
        for many in (12, 13):
            deep = nested("not %s", many)
            for around in ("1 + %s", "(%s) + 1", "if 1 then %s else 1", "a.w(1, %s)", "new h(%s, 1)", "set (%s).f = 1",
                           "set a.f = %s", "(%s).f", "(%s).w(1)", "let x = %s in 1", "elder.w(1, %s, 1)"):
                text = around.replace("%s", deep)
                if many == 12:
                    self.assertEqual(self.term(text).depth(), 14, text)
                else:
                    self.refused("main() number = " + text)

    def test_the_field_that_is_set_is_no_part(self):
        # The thing of a set lies one below the set, not two.
        text = "set a" + ".f" * 13 + " = 1"
        self.assertEqual(self.term(text).depth(), 14)
        self.refused("main() number = set a" + ".f" * 14 + " = 1")

    def test_brackets_do_not_count(self):
        self.assertEqual(self.term("(" * 14 + "1" + ")" * 14).depth(), 1)
        self.assertEqual(self.term("(((not 1)))").depth(), 2)


class Size(BoundsCase):
    def text_of(self, sizes):
        """A program whose bodies have so many terms, each odd and none deep, main's the last one."""
        bodies = [self.body(size) for size in sizes]
        houses = ""
        for start in range(0, len(bodies) - 1, 8):
            own = " ".join("can w() a = " + body for body in bodies[start:min(start + 8, len(bodies) - 1)])
            houses += "house h { " + own + " } "
        return houses + "main() a = " + bodies[-1]

    def body(self, size):
        if size == 1:
            return "1"
        if size % 2 == 0:
            return "not (" + self.body(size - 1) + ")" if size > 2 else "not 1"
        half = (size - 1) // 2
        if half % 2 == 0:
            half += 1
        return "(" + self.body(half) + ")+(" + self.body(size - 1 - half) + ")"

    def total(self, text):
        return sum(body.size() for body in read(text).bodies())

    def test_four_hundred_in_main_alone(self):
        self.assertEqual(self.total(self.text_of([399])), 399)
        self.assertEqual(self.total(self.text_of([400])), 400)
        self.refused(self.text_of([401]))
        self.refused(self.text_of([402]))
        self.refused(self.text_of([500]))

    def test_four_hundred_over_several_bodies(self):
        self.assertEqual(self.total(self.text_of([100, 100, 100, 100])), 400)
        self.refused(self.text_of([100, 100, 100, 101]))
        self.refused(self.text_of([101, 100, 100, 100]))
        self.assertEqual(self.total(self.text_of([40] * 10)), 400)
        self.refused(self.text_of([40] * 9 + [41]))
        self.refused(self.text_of([40] * 10 + [1]))
        self.assertEqual(self.total(self.text_of([399, 1])), 400)
        self.assertEqual(self.total(self.text_of([1, 399])), 400)
        self.refused(self.text_of([399, 2]))
        self.refused(self.text_of([400, 1]))

    def test_fields_and_params_are_no_terms(self):
        text = self.text_of([200, 200]).replace("{", "{ has a number has b number").replace("w()", "w(x number)")
        self.assertEqual(self.total(text), 400)


class Brackets(BoundsCase):
    def test_fourteen_and_fifteen(self):
        for many in range(15):
            self.assertEqual(self.term("(" * many + "1" + ")" * many).plain(), ("number", 1))
        for many in (15, 16, 20, 2990):
            self.refused("main() number = " + "(" * many + "1" + ")" * many)

    def test_of_calls_count_too(self):
        thirteen, fourteen = "(" * 13 + "1" + ")" * 13, "(" * 14 + "1" + ")" * 14
        for ahead in ("new h", "elder.w", "a.w"):
            self.term(ahead + "(" + thirteen + ")")
            self.refused("main() number = " + ahead + "(" + fourteen + ")")
            self.term(ahead + "()." + "w(" + thirteen + ").v(" + thirteen + ")")
            self.refused("main() number = " + ahead + "(1, " + fourteen + ")")

    def test_only_those_that_stand_open_at_once(self):
        fourteen = "(" * 14 + "1" + ")" * 14
        self.term(" + ".join([fourteen] * 10))
        self.refused("main() number = (" + " + ".join(["1"] * 5 + [fourteen] + ["1"]) + ")")
        read("house h { can w(x number) a = " + fourteen + " } main(x number) a = " + fourteen)
        self.refused("house h { can w(x number) a = (" + fourteen + ") } main(x number) a = " + fourteen)

    def test_that_are_not_closed(self):
        for many in (1, 14, 15, 5900):
            self.refused("main() number = " + "(" * many)
            self.refused("main() number = 1" + ")" * many)
        self.refused("(" * 6000)
        self.refused(")" * 6000)


class Thousands(BoundsCase):
    """Texts nested as deep as 6,000 signs hold."""

    STARTS = ("(", "not ", "if ", "if 1 then ", "if 1 then 1 else ", "let x=", "let x=1 in ", "set a.b=", "set ",
              "new h(", "elder.w(", "a.w(", "1.w(1,", "1+", "1-", "1*", "1/", "1;", "1<", "1=", "a.", "a.w().", "1+(",
              "not(", "1;let x=1 in ", "1*if ", "1+not ", "a<if 1 then 1 else ", "set(", "set a.w(", "(1).", "((1)+",
              "let x=set a.b=", "if let x=", "not let x=1 in ", "new h(1;", "1;if 1 then 1 else ", "if set a.b=")
    ENDS = ("1", "a", "a.b", "", "1" + ")" * 15)

    def test_each_start(self):
        for start in self.STARTS:
            for end in self.ENDS:
                ahead = "main() number = "
                times = (6000 - len(ahead) - len(end)) // len(start)
                self.refused(ahead + start * times + end)
                self.refused("house h { can w() a = " + start * (times - 10) + end)

    def test_few_calls_within_each_other(self):
        before = sys.getrecursionlimit()
        sys.setrecursionlimit(len(inspect.stack()) + 250)
        try:
            self.test_each_start()
            self.test_closed_as_they_ought_to_be()
            for way, _ in DEEPER:
                self.term(nested(way, 13))
            self.term("(" * 13 + "new h(" + "if 1 then 1 else " * 11 + "not 1" + ")" * 14)
        finally:
            sys.setrecursionlimit(before)

    def test_closed_as_they_ought_to_be(self):
        for start, end in (("(", ")"), ("new h(", ")"), ("elder.w(", ")"), ("a.w(", ")"), ("not (", ")"), ("1+(", ")"),
                           ("if ", " then 1 else 1"), ("if 1 then ", " else 1"), ("let x=", " in 1"), ("set(", ").f=1"),
                           ("", "+1"), ("", ".f"), ("", ".w()"), ("", ";1"), ("", "<1"), ("(", "+1)"),
                           ("if(", ")then 1 else 1")):
            times = 5900 // len(start + end)
            self.refused("main() number = " + start * times + "1" + end * times)

    def test_many_houses_and_lists(self):
        self.refused("house a { } " * 490 + "main() a = 1")
        self.refused("house a { " + "has f a " * 700 + "} main() a = 1")
        self.refused("house a { " + "can w() a = 1 " * 400 + "} main() a = 1")
        self.refused("main(" + "x number," * 600 + "x number) a = 1")
        self.refused("main() a = new h(" + "1," * 2900 + "1)")
        self.refused("main() a = new h(" + ("a,a;" * 1400) + "1)")
        self.refused("main() a = " + "new h()+" * 700 + "1")


if __name__ == "__main__":
    unittest.main()
