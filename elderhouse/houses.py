"""The houses of a program, each with all that it has from its elders."""


# Of a program whose elders are houses, and lead back to none.
class Hall:
    def __init__(self, program):
        self.in_order = tuple([house.name for house in program.all_houses])
        self.by_name = {}
        for house in program.all_houses:
            self.by_name[house.name] = house

    def houses(self):
        return list(self.in_order)

    def elders(self, house):
        nearest_first = []
        one = self.by_name[house].elder
        while one is not None:
            nearest_first.append(one)
            one = self.by_name[one].elder
        return nearest_first

    def younger(self, house):
        return [one for one in self.in_order if house in self.elders(one)]

    def fields(self, house):
        all_fields = []
        for one in reversed([house] + self.elders(house)):
            all_fields.extend(self.by_name[one].own_fields)
        return all_fields

    def place(self, house, field):
        names = [name for name, kind in self.fields(house)]
        if field in names:
            return names.index(field)
        return None

    def found(self, house, word):
        for one in [house] + self.elders(house):
            names = [own.name for own in self.by_name[one].own_words]
            if word in names:
                return (one, names.index(word))
        return None

    def head(self, house, word):
        own = self.found_word(house, word)
        if own is None:
            return None
        return (own.params, own.kind)

    def found_word(self, house, word):
        where = self.found(house, word)
        if where is None:
            return None
        name, number = where
        return self.by_name[name].own_words[number]
