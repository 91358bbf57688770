"""Cutting a text into words."""

from elderhouse.errors import BadWords

LONGEST_TEXT = 6000
LONGEST_NUMBER = 9
LONGEST_NAME = 8

# Written out, since isalnum and its like let by letters and figures of other scripts.
FIGURES = "0123456789"
SMALL_LETTERS = "abcdefghijklmnopqrstuvwxyz"
GREAT_LETTERS = "ABCDEFGHIJKLMNOPQRSTUVWXYZ"
GAPS = " \t\n"
SIGNS = "(){},.;=+-*/<"

TOLD_WORDS = (
    "house", "of", "has", "can", "main", "let", "in", "if", "then", "else",
    "new", "self", "elder", "set", "not", "yes", "no", "number", "truth",
)


def is_told(word):
    return word in TOLD_WORDS


def is_name(word):
    return is_name_row(word) and not is_told(word)


def words(text):
    if not isinstance(text, str) or len(text) > LONGEST_TEXT:
        raise BadWords(0)
    cut = []
    at = 0
    while at < len(text):
        if text[at] in GAPS:
            at += 1
        else:
            word = word_at(text, at)
            cut.append(word)
            at += len(word)
    return cut


def word_at(text, at):
    row = row_at(text, at)
    if is_number(row) or is_name_row(row):
        return row
    if row == "" and text[at] in SIGNS:
        return text[at]
    raise BadWords(at)


# Great letters stand in no word, but belong to the row: it is refused at its first sign, not at theirs.
def row_at(text, at):
    end = at
    while end < len(text) and is_row_sign(text[end]):
        end += 1
    return text[at:end]


def is_row_sign(sign):
    return sign in SMALL_LETTERS or sign in FIGURES or sign in GREAT_LETTERS


def is_number(word):
    if not 1 <= len(word) <= LONGEST_NUMBER:
        return False
    if word[0] == "0":
        return word == "0"
    return all([sign in FIGURES for sign in word])


def is_name_row(word):
    if not 1 <= len(word) <= LONGEST_NAME:
        return False
    return word[0] in SMALL_LETTERS and all([sign in SMALL_LETTERS or sign in FIGURES for sign in word])
