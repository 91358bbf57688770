"""What reading and showing share: the words of truths, and a guest who goes through a text word by word."""

from elderhouse.errors import BadForm
from elderhouse.words import is_name

TRUTHS = {"yes": True, "no": False}


class Guest:
    def __init__(self, all_words):
        self.row = tuple(all_words)
        self.gone = 0

    # No word is empty, so that behind the last one nothing is taken for a word.
    def ahead(self):
        if self.gone < len(self.row):
            return self.row[self.gone]
        return ""

    def behind(self):
        return self.row[self.gone - 1]

    def take(self):
        word = self.ahead()
        if word == "":
            raise BadForm("the text ends too soon")
        self.gone += 1
        return word

    def takes(self, word):
        if self.ahead() != word:
            return False
        self.gone += 1
        return True

    def need(self, word):
        if not self.takes(word):
            raise BadForm(f"missing: {word}")

    def need_name(self):
        if not is_name(self.ahead()):
            raise BadForm("a name is wanted")
        return self.take()

    def need_end(self):
        if self.ahead() != "":
            raise BadForm("words behind the end")
