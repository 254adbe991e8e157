"""Programs of point 12, made by chance: meanings of letters with things that hold something."""


class Stayed(Exception):
    pass


class Failed(Exception):
    pass


class Program:
    """Each letter ends and sets as was drawn for it, the values of its parts and what it reads."""

    def __init__(self, chance, ground, permits, things=3):
        self.chance, self.ground, self.permits = chance, ground, permits
        self.moving = [letter for letter in ground if letter not in ground.fixed()]
        self.things = [self.thing() for _ in range(things)]
        self.drawn = {}
        self.truths = {}
        # few values, so that a letter gives the same one as others, or a name's
        self.given = [("value", name) for name in ("a", "b", "true", "false")] + [("made", k) for k in range(3)]

    def thing(self):
        """Which letters set a thing, and which read it: no more than the permits let."""
        setting, reading = [], []
        for letter in self.chance.sample(self.moving, len(self.moving)):
            like = all(("shares", letter, other) in self.permits for other in setting)
            if ("writes", letter) in self.permits and like and self.chance.random() < 0.7:
                setting.append(letter)
        for letter in self.moving:
            if all(("shows", other, letter) in self.permits for other in setting) and self.chance.random() < 0.8:
                reading.append(letter)
        return setting, reading

    def true(self, value):
        if value[0] == "value":
            return value[1] != "false"
        if value not in self.truths:
            self.truths[value] = self.chance.random() < 0.5
        return self.truths[value]

    def draw(self, letter):
        ends = [("value", self.chance.choice(self.given)) for _ in range(4)]
        if ("fails", letter) in self.permits:
            ends += [("fails", self.chance.choice(("one", "two"))) for _ in range(2)]
        if ("stays", letter) in self.permits:
            ends.append(("stays", None))
        sets = {}
        for place, (setting, _) in enumerate(self.things):
            if letter in setting and self.chance.random() < 0.7:
                sets[place] = self.chance.randrange(3)
        return self.chance.choice(ends), sets

    def use(self, letter, values, state):
        for told, names, end in self.ground.facts():
            exchanged = (names, names[::-1]) if letter in self.ground.commuting() else (names,)
            if told == letter and any(tuple(("value", name) for name in one) == values for one in exchanged):
                if end[0] == "fail":
                    raise Failed(end)
                return end
        read = tuple(state[place] for place, (_, reading) in enumerate(self.things) if letter in reading)
        asked = (letter, tuple(sorted(values)) if letter in self.ground.commuting() else values, read)
        if asked not in self.drawn:
            self.drawn[asked] = self.draw(letter)
        (kind, what), sets = self.drawn[asked]
        if kind == "stays":
            raise Stayed()
        state.update(sets)
        if kind == "fails":
            raise Failed((letter, what))
        return what

    def end(self, term, state):
        """How a term ends from a state, and what the things hold behind it."""
        state = dict(enumerate(state))
        try:
            return "value", self.value(term, {}, state), state
        except Failed as failed:
            return "fails", failed.args[0], state
        except Stayed:
            return "stays"

    def value(self, term, names, state):
        word = term[0]
        if word == "value":
            return term
        if word == "name":
            return names[term[1]]
        if word == "fail":
            raise Failed(term)
        if word == "use":
            return self.use(term[1], tuple([self.value(part, names, state) for part in term[2]]), state)
        if word == "bind":
            return self.value(term[3], {**names, term[1]: self.value(term[2], names, state)}, state)
        if word == "try":
            try:
                return self.value(term[1], names, state)
            except Failed:
                return self.value(term[2], names, state)
        if word == "last":
            try:
                value = self.value(term[1], names, state)
            except Failed:
                self.value(term[2], names, state)
                raise
            self.value(term[2], names, state)
            return value
        first = self.value(term[1], names, state)
        if word == "then":
            return self.value(term[2], names, state)
        if word == "not":
            return ("value", "false" if self.true(first) else "true")
        if word == "if":
            return self.value(term[2] if self.true(first) else term[3], names, state)
        return self.value(term[2], names, state) if self.true(first) == (word == "and") else first
