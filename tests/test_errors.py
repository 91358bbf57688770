"""The interface's part elderhouse/errors.py: how the classes stand, and their fields."""

import unittest

from elderhouse import errors
from elderhouse.errors import BadForm, BadInput, BadKind, BadName, BadWords, HouseError

REFUSALS = (BadWords, BadForm, BadName, BadKind, BadInput)


class HowTheyStand(unittest.TestCase):
    def test_house_error_stands_straight_under_value_error(self):
        self.assertEqual(HouseError.__bases__, (ValueError,))

    def test_each_stands_straight_under_house_error(self):
        for refusal in REFUSALS:
            self.assertEqual(refusal.__bases__, (HouseError,), refusal)

    def test_none_stands_under_another_one(self):
        for one in REFUSALS:
            for other in REFUSALS:
                self.assertEqual(issubclass(one, other), one is other, (one, other))

    def test_they_are_called_as_told(self):
        for name in ("HouseError", "BadWords", "BadForm", "BadName", "BadKind", "BadInput"):
            self.assertEqual(getattr(errors, name).__name__, name)


class Fields(unittest.TestCase):
    def test_at(self):
        for at in (0, 1, 5999):
            self.assertEqual(BadWords(at).at, at)
            self.assertIs(type(BadWords(at).at), int)

    def test_word(self):
        for word in ("x", "house", "<"):
            self.assertEqual(BadName(word).word, word)
            self.assertEqual(BadKind(word).word, word)

    def test_fields_are_each_objects_own(self):
        one, other = BadName("a"), BadName("b")
        self.assertEqual((one.word, other.word), ("a", "b"))
        one, other = BadKind("a"), BadKind("b")
        self.assertEqual((one.word, other.word), ("a", "b"))
        one, other = BadWords(1), BadWords(2)
        self.assertEqual((one.at, other.at), (1, 2))


class Raised(unittest.TestCase):
    def made(self):
        return (BadWords(7), BadForm("why"), BadForm(), BadName("x"), BadKind("y"), BadInput("why"), BadInput())

    def test_each_is_taken_as_itself_as_house_error_and_as_value_error(self):
        for error in self.made():
            for taken in (type(error), HouseError, ValueError):
                with self.assertRaises(taken) as caught:
                    raise error
                self.assertIs(caught.exception, error)

    def test_fields_are_there_when_taken(self):
        try:
            raise BadWords(7)
        except ValueError as error:
            self.assertEqual(error.at, 7)
        for refusal in (BadName, BadKind):
            try:
                raise refusal("elder")
            except HouseError as error:
                self.assertEqual(error.word, "elder")

    def test_each_can_be_shown(self):
        for error in self.made():
            self.assertIsInstance(str(error), str)
            self.assertIsInstance(repr(error), str)


if __name__ == "__main__":
    unittest.main()
