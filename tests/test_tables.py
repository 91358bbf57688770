"""Points 18 and 20: numbers of words, and tables."""

import unittest

from samples import programs

from elderhouse.houses import Hall
from elderhouse.reading import read
from elderhouse.tables import tables, word_names


class TablesCase(unittest.TestCase):
    def tells(self, text, names, due):
        program = read(text)
        plain = program.plain()
        told = tables(program)
        self.assertEqual(word_names(program), names)
        self.assertIs(type(word_names(program)), list)
        self.assertEqual(told, due)
        self.assertIs(type(told), list)
        for table in told:
            self.assertIs(type(table), list)
        self.assertEqual(program.plain(), plain)


class Tables(TablesCase):
    def test_no_houses(self):
        self.tells("main() number = 1", [], [])

    def test_houses_without_words(self):
        self.tells("house a { } house b of a { has n number } main() number = 1", [], [[], []])

    def test_words_of_one_house(self):
        self.tells("house a { can w() number = 1 can v() number = 1 can u() number = 1 } main() number = 1",
                   ["w", "v", "u"], [[0, 1, 2]])

    def test_words_by_where_they_first_stand(self):
        self.tells("house a { can w() number = 1 } house b { can v() number = 1 can w() number = 1 can u() number = 1 }"
                   " house c { can z() number = 1 can u() number = 1 can a() number = 1 } main() number = 1",
                   ["w", "v", "u", "z", "a"],
                   [[0, None, None, None, None], [2, 1, 3, None, None], [None, None, 5, 4, 6]])

    def test_words_that_an_elder_has(self):
        self.tells("house a { can w() number = 1 can v() number = 1 } house b of a { } house c of b { can u() number = 1 }"
                   " house d { } main() number = 1",
                   ["w", "v", "u"], [[0, 1, None], [0, 1, None], [0, 1, 2], [None, None, None]])

    def test_words_put_otherwise(self):
        self.tells("house a { can w() number = 1 can v() number = 1 } house b of a { can v() number = 2 }"
                   " house c of b { can w() number = 3 } house d of c { } main() number = 1",
                   ["w", "v"], [[0, 1], [0, 2], [3, 2], [3, 2]])

    def test_elders_behind_their_younger_ones(self):
        self.tells("house d of c { can x() number = 1 } house c of a { can w() number = 1 } house b { can v() number = 1 }"
                   " house a { can v() number = 1 can w() number = 1 } main() number = 1",
                   ["x", "w", "v"], [[0, 1, 3], [None, 1, 3], [None, None, 2], [None, 4, 3]])

    def test_names_of_fields_params_and_mains_have_no_part(self):
        self.tells("house a { has f number can w(p number) number = let x = p in x } main(m number) number = new a(1).w(m)",
                   ["w"], [[0]])

    def test_many_programs(self):
        for program, _ in programs(100):
            hall, names, told = Hall(program), word_names(program), tables(program)
            words = [(house[0], word[0]) for house in program.plain()[0] for word in house[3]]
            self.assertEqual(names, list(dict.fromkeys(word for _, word in words)))
            for house, table in zip(hall.houses(), told, strict=True):
                for name, block in zip(names, table, strict=True):
                    where = hall.found(house, name)
                    self.assertEqual(block, None if where is None else words.index((where[0], name)))

    def test_what_is_told_is_the_askers_own(self):
        program = read("house a { can w() number = 1 } house b of a { } main() number = 1")
        one, names = tables(program), word_names(program)
        one[0].append(7)
        one[0][0] = 9
        one.pop()
        names.clear()
        self.assertEqual(tables(program), [[0], [0]])
        self.assertEqual(word_names(program), ["w"])


if __name__ == "__main__":
    unittest.main()
