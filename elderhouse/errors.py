"""The refusals, each a class of its own straight under HouseError."""


class HouseError(ValueError):
    pass


class BadWords(HouseError):
    def __init__(self, at):
        HouseError.__init__(self, f"no word of the language at {at}")
        self.at = at


class BadForm(HouseError):
    pass


class BadName(HouseError):
    def __init__(self, word):
        HouseError.__init__(self, f"this name is not let by: {word}")
        self.word = word


class BadKind(HouseError):
    def __init__(self, word):
        HouseError.__init__(self, f"the kinds do not go together at: {word}")
        self.word = word


class BadInput(HouseError):
    pass
