"""Point 21: what is remembered at a site."""

import itertools
import unittest

from elderhouse.places import Places


class Remembered(unittest.TestCase):
    def test_nothing(self):
        places = Places()
        self.assertIsNone(places.asked(0, 0))
        self.assertEqual(places.told(0), [])
        self.assertIs(type(places.told(0)), list)
        self.assertEqual(places.told(99), [])

    def test_one(self):
        places = Places()
        self.assertIsNone(places.put(3, 5, 7))
        self.assertEqual(places.told(3), [(5, 7)])
        self.assertIs(type(places.told(3)[0]), tuple)
        self.assertEqual(places.asked(3, 5), 7)
        self.assertIsNone(places.asked(3, 6))
        self.assertIsNone(places.asked(3, 7))
        self.assertEqual(places.told(3), [(5, 7)])

    def test_two(self):
        places = Places()
        places.put(0, 1, 10)
        places.put(0, 2, 20)
        self.assertEqual(places.told(0), [(2, 20), (1, 10)])
        self.assertEqual(places.asked(0, 1), 10)
        self.assertEqual(places.told(0), [(1, 10), (2, 20)])
        self.assertEqual(places.asked(0, 1), 10)
        self.assertEqual(places.told(0), [(1, 10), (2, 20)])
        self.assertEqual(places.asked(0, 2), 20)
        self.assertEqual(places.told(0), [(2, 20), (1, 10)])
        self.assertIsNone(places.asked(0, 3))
        self.assertEqual(places.told(0), [(2, 20), (1, 10)])

    def test_a_third_one(self):
        places = Places()
        places.put(0, 1, 10)
        places.put(0, 2, 20)
        places.put(0, 3, 30)
        self.assertEqual(places.told(0), [(3, 30), (2, 20)])
        self.assertIsNone(places.asked(0, 1))
        self.assertEqual(places.asked(0, 2), 20)
        places.put(0, 4, 40)
        self.assertEqual(places.told(0), [(4, 40), (2, 20)])
        self.assertIsNone(places.asked(0, 3))
        places.put(0, 1, 10)
        self.assertEqual(places.told(0), [(1, 10), (4, 40)])

    def test_that_which_was_asked_stays_when_a_third_one_comes(self):
        places = Places()
        places.put(0, 1, 10)
        places.put(0, 2, 20)
        places.asked(0, 1)
        places.put(0, 3, 30)
        self.assertEqual(places.told(0), [(3, 30), (1, 10)])

    def test_block_and_house_nought(self):
        places = Places()
        places.put(0, 0, 0)
        self.assertEqual(places.asked(0, 0), 0)
        self.assertIsNotNone(places.asked(0, 0))
        places.put(0, 1, 0)
        self.assertEqual(places.told(0), [(1, 0), (0, 0)])

    def test_sites_have_nothing_to_do_with_one_another(self):
        places = Places()
        for site in (0, 1, 10 ** 12):
            places.put(site, 5, site)
            places.put(site, 10 ** 9, site + 1)
        self.assertIsNone(places.asked(2, 5))
        self.assertEqual(places.asked(1, 5), 1)
        self.assertEqual(places.told(0), [(10 ** 9, 1), (5, 0)])
        self.assertEqual(places.told(1), [(5, 1), (10 ** 9, 2)])
        self.assertEqual(places.told(10 ** 12), [(10 ** 9, 10 ** 12 + 1), (5, 10 ** 12)])

    def test_two_have_nothing_to_do_with_one_another(self):
        one, other = Places(), Places()
        one.put(0, 1, 10)
        self.assertIsNone(other.asked(0, 1))
        other.put(0, 1, 20)
        self.assertEqual((one.asked(0, 1), other.asked(0, 1)), (10, 20))

    def test_lists_that_were_told(self):
        places = Places()
        places.put(0, 1, 10)
        kept = places.told(0)
        places.put(0, 2, 20)
        self.assertEqual(kept, [(1, 10)])
        told = places.told(0)
        told.reverse()
        told.append((9, 9))
        places.told(5).append((1, 1))
        self.assertEqual(places.told(0), [(2, 20), (1, 10)])
        self.assertEqual(places.told(5), [])
        self.assertIsNone(places.asked(5, 1))
        self.assertIsNone(places.asked(0, 9))

    def test_told_changes_no_order(self):
        places = Places()
        places.put(0, 1, 10)
        places.put(0, 2, 20)
        places.told(0)
        places.told(1)
        self.assertEqual(places.told(0), [(2, 20), (1, 10)])

    def test_all_short_ways(self):
        for houses in itertools.product((0, 1, 2, 3), repeat=6):
            places, due = Places(), []
            for house in houses:
                known = [pair for pair in due if pair[0] == house]
                self.assertEqual(places.asked(4, house), known[0][1] if known else None)
                if not known:
                    places.put(4, house, house * 7)
                due = ([(house, house * 7)] + [pair for pair in due if pair[0] != house])[:2]
                self.assertEqual(places.told(4), due)


if __name__ == "__main__":
    unittest.main()
