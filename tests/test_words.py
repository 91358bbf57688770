"""Point 2: how a text is cut into words, and what a word is."""

import itertools
import re
import string
import unittest

from elderhouse.errors import BadWords
from elderhouse.words import is_name, is_told, words

SIGNS = list("(){},.;=+-*/<")
TOLD = ("house of has can main let in if then else new self elder set not yes no number truth").split()
PRINTED = [chr(code) for code in range(32, 127)]
NAMES = ["a", "z", "x1", "a0", "z9", "abcdefgh", "a1234567", "abc4efg8", "h0use", "houses", "house1", "ahouse",
         "inn", "i", "iff", "elders", "nota", "yesno", "selfish", "ofof", "numbers", "truths", "t", "mains"]


class WordsCase(unittest.TestCase):
    def cut(self, text, wanted):
        told = words(text)
        self.assertIs(type(told), list)
        self.assertEqual(told, wanted, repr(text))
        for word in told:
            self.assertIs(type(word), str)

    def refused(self, text, at):
        with self.assertRaises(BadWords, msg=repr(text)[:40]) as caught:
            words(text)
        self.assertEqual(caught.exception.at, at, repr(text)[:40])
        self.assertIs(type(caught.exception.at), int)


class Signs(WordsCase):
    def test_each_by_itself(self):
        self.assertEqual(len(SIGNS), 13)
        for sign in SIGNS:
            self.cut(sign, [sign])

    def test_any_two_are_two_words(self):
        for one in SIGNS:
            for other in SIGNS:
                self.cut(one + other, [one, other])

    def test_they_end_rows(self):
        for sign in SIGNS:
            self.cut("ab" + sign + "12" + sign + "if", ["ab", sign, "12", sign, "if"])

    def test_all_other_signs_are_refused_at_their_place(self):
        known = set(SIGNS) | set(string.ascii_letters + string.digits + " ")
        others = [sign for sign in PRINTED if sign not in known]
        self.assertEqual("".join(others), "!\"#$%&':>?@[\\]^_`|~")
        for sign in others:
            self.refused(sign, 0)
            self.refused("ab" + sign, 2)
            self.refused(sign + "ab", 0)
            self.refused("ab" + sign + "cd", 2)
            self.refused("a = 12 " + sign + " b", 7)
            self.refused(" \t\n" + sign, 3)


class Gaps(WordsCase):
    def test_nothing(self):
        self.cut("", [])

    def test_gaps_alone(self):
        for many in (1, 2, 3):
            for gaps in itertools.product(" \t\n", repeat=many):
                self.cut("".join(gaps), [])

    def test_each_gap_parts_words(self):
        for gap in (" ", "\t", "\n", "  ", " \t\n", "\n\n\t "):
            self.cut("a" + gap + "b", ["a", "b"])
            self.cut("1" + gap + "2", ["1", "2"])
            self.cut("not" + gap + "yes", ["not", "yes"])
            self.cut("(" + gap + ")", ["(", ")"])
            self.cut(gap + "a" + gap + "+" + gap + "1" + gap, ["a", "+", "1"])

    def test_none_is_needed_beside_signs(self):
        self.cut("main(a number)number=a*(b+1)-new c(2,3).d",
                 ["main", "(", "a", "number", ")", "number", "=", "a", "*", "(", "b", "+", "1", ")", "-",
                  "new", "c", "(", "2", ",", "3", ")", ".", "d"])

    def test_a_house(self):
        self.cut("house b of a {\n\thas n number\n\tcan get() number = self.n / 2\n}\nmain() truth = 1 < 2; yes",
                 ["house", "b", "of", "a", "{", "has", "n", "number", "can", "get", "(", ")", "number", "=",
                  "self", ".", "n", "/", "2", "}", "main", "(", ")", "truth", "=", "1", "<", "2", ";", "yes"])


class Numbers(WordsCase):
    def test_let_by(self):
        for number in ("0", "1", "9", "10", "90", "100", "42", "12345678", "123456789", "999999999", "100000000"):
            self.cut(number, [number])

    def test_ten_figures_and_more(self):
        for number in ("1234567890", "1000000000", "9" * 11, "1" * 100):
            self.refused(number, 0)
            self.refused("a + " + number, 4)

    def test_a_nought_ahead(self):
        for number in ("00", "01", "09", "000", "0123", "012345678", "0000000000"):
            self.refused(number, 0)
            self.refused("(" + number + ")", 1)

    def test_not_cut_into_several(self):
        self.cut("123 456", ["123", "456"])
        self.cut("0 0", ["0", "0"])
        self.cut("12.50", ["12", ".", "50"])
        self.refused("12.05", 3)
        self.cut("-5", ["-", "5"])
        self.cut("0-0", ["0", "-", "0"])


class Names(WordsCase):
    def test_let_by(self):
        for name in NAMES:
            self.cut(name, [name])

    def test_every_letter_and_figure(self):
        for letter in string.ascii_lowercase:
            self.cut(letter, [letter])
            self.cut("a" + letter, ["a" + letter])
        for figure in string.digits:
            self.cut("a" + figure, ["a" + figure])

    def test_nine_signs_and_more(self):
        for name in ("abcdefghi", "a12345678", "abcdefgh9", "a" * 10, "a" * 100, "numbertru", "elderhouse"):
            self.refused(name, 0)
            self.refused("x . " + name, 4)

    def test_told_words_are_words(self):
        self.assertEqual(len(TOLD), 19)
        for told in TOLD:
            self.cut(told, [told])
        self.cut(" ".join(TOLD), TOLD)

    def test_words_that_only_begin_or_end_like_told_ones(self):
        for told in TOLD:
            for row in (told + "s", told + "1", "x" + told, told + told):
                if len(row) <= 8:
                    self.cut(row, [row])
                else:
                    self.refused(row, 0)


class Rows(WordsCase):
    def test_great_letters(self):
        for letter in string.ascii_uppercase:
            self.refused(letter, 0)
            self.refused("a" + letter, 0)
            self.refused(letter + "a", 0)
            self.refused("1" + letter, 0)
            self.refused("ab " + letter, 3)
            self.refused("ab.cd" + letter + "ef", 3)
        for row in ("House", "houSe", "housE", "YES", "selF", "a1B"):
            self.refused(row, 0)

    def test_figures_ahead_of_letters(self):
        for row in ("1a", "0a", "9lives", "12if", "1house", "0x1f", "1e5", "123456789a", "1a1"):
            self.refused(row, 0)
            self.refused("+" + row, 1)

    def test_refused_at_the_first_sign_of_the_row(self):
        self.refused("abcdefghijkl", 0)
        self.refused("let x = abcdefghI in x", 8)
        self.refused("let x = 12345678901 in x", 8)
        self.refused("let x = 007 in x", 8)

    def test_the_first_place_is_told(self):
        self.refused("a A ! 00", 2)
        self.refused("a ! A 00", 2)
        self.refused("a 00 A !", 2)
        self.refused("a!A", 1)
        self.refused("aA!", 0)
        self.refused("(1a) 2b", 1)
        self.refused("ok abcdefghi 1234567890", 3)
        self.refused("\n\n\t?A", 3)
        self.refused("_a", 0)
        self.refused("a_b", 1)
        self.refused("1>2", 1)
        self.refused("a == b != c", 7)

    def test_against_a_written_pattern(self):
        for many in range(1, 5):
            for signs in itertools.product("a0 1B.!", repeat=many):
                self.like_pattern("".join(signs))

    def like_pattern(self, text):
        wanted = []
        for found in re.finditer(r"[a-zA-Z0-9]+|[^ \t\n]", text):
            if not re.fullmatch(r"0|[1-9][0-9]{0,8}|[a-z][a-z0-9]{0,7}|[(){},.;=+\-*/<]", found.group()):
                self.refused(text, found.start())
                return
            wanted.append(found.group())
        self.cut(text, wanted)


class Lengths(WordsCase):
    def test_six_thousand_signs(self):
        self.cut(" " * 6000, [])
        self.cut("(" * 6000, ["("] * 6000)
        self.cut("a " * 3000, ["a"] * 3000)
        self.cut(" " * 5999 + "a", ["a"])
        self.refused("(" * 5999 + "!", 5999)
        self.refused("a" * 6000, 0)

    def test_more(self):
        for many in (6001, 6002, 10000):
            self.refused(" " * many, 0)
            self.refused("(" * many, 0)
        self.refused(" " * 6001 + "!", 0)
        self.refused("ab ! " + "(" * 5996, 0)
        self.refused("\n" * 6000 + "a", 0)

    def test_what_is_no_text(self):
        for other in (None, 0, 5, True, False, 1.5, b"main", bytearray(b"a"), ["a"], ("a",), {"a": 1}, [], (), {},
                      object(), str, iter("a")):
            self.refused(other, 0)


class Own(WordsCase):
    def test_what_is_told_is_the_askers_own(self):
        text = "a + 1"
        one, other = words(text), words(text)
        one.append("b")
        one[0] = "c"
        self.assertEqual(other, ["a", "+", "1"])
        self.assertEqual(words(text), ["a", "+", "1"])
        self.assertEqual(words(""), [])

    def test_a_refusal_changes_nothing_later(self):
        for _ in range(2):
            self.refused("a B", 2)
            self.cut("a b", ["a", "b"])


class IsTold(unittest.TestCase):
    def told(self, word, wanted):
        self.assertIs(is_told(word), wanted, repr(word))

    def test_every_told_word(self):
        for word in TOLD:
            self.told(word, True)

    def test_what_is_near_a_told_word(self):
        for word in TOLD:
            for other in (word + "s", "x" + word, word.upper(), word.capitalize(), " " + word, word + " ", word[:-1]):
                self.told(other, other in TOLD)

    def test_others(self):
        for word in NAMES + SIGNS + ["0", "7", "123456789", "", " ", "\n", "!", "A", "1a", "of has", "house of",
                                     "or", "and", "true", "false", "abcdefghi", "ouse", "(house)"]:
            self.told(word, False)


class IsName(unittest.TestCase):
    def name(self, word, wanted):
        self.assertIs(is_name(word), wanted, repr(word))

    def test_names(self):
        for word in NAMES:
            self.name(word, True)
        for letter in string.ascii_lowercase:
            self.name(letter, True)
        for figure in string.digits:
            self.name("q" + figure, True)

    def test_told_words_are_none(self):
        for word in TOLD:
            self.name(word, False)
            self.name(word + "1", True)

    def test_numbers_and_signs_are_none(self):
        for word in SIGNS + ["0", "1", "42", "123456789", "1234567890", "00"]:
            self.name(word, False)

    def test_texts_that_are_no_words(self):
        for word in ["", " ", "\t", "\n", "a ", " a", "a\n", "\na", "a b", "a.b", "a_b", "_a", "_", "A", "aB", "Ab",
                     "1a", "0x", "abcdefghi", "a12345678", "a" * 100, "a!", "!", "a-b", "(a)", "a,"]:
            self.name(word, False)

    def test_all_short_rows(self):
        for many in (1, 2, 3):
            for signs in itertools.product("anoi01 A_.", repeat=many):
                word = "".join(signs)
                self.name(word, bool(re.fullmatch("[a-z][a-z0-9]{0,7}", word)) and word not in TOLD)


if __name__ == "__main__":
    unittest.main()
