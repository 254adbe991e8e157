"""A second, plain telling of the free world of points 14 to 16, to which the tests hold the program."""

import itertools

from freeworldrules.permits import Permits


class Failed(Exception):
    def __init__(self, failure):
        self.failure = failure


class Stayed(Exception):
    pass


def once_by_last(things):
    """The list of the things, each once, by their last occurrence."""
    return [thing for place, thing in enumerate(things) if thing not in things[place + 1:]]


class Model:
    """Terms run one behind the other by bits; a history of all evaluations instead of what was last."""

    def __init__(self, ground, permits, bits=()):
        self.ground, self.permits, self.bits = ground, permits, list(bits)
        self.moving = [letter for letter in ground if letter not in ground.fixed()]
        self.asked = []
        self.given = []
        self.numbers = {letter: [] for letter in ground}
        self.history = []

    def ask(self, question):
        if question not in self.asked:
            self.given.append(self.bits[len(self.asked)] if len(self.asked) < len(self.bits) else 0)
            self.asked.append(question)
        return self.given[self.asked.index(question)] == 1

    def of(self, letters):
        return once_by_last([(letter, number) for letter, number, _, _ in self.history if letter in letters])

    def view(self, letter):
        shown = [one for one in self.moving if ("shows", one, letter) in self.permits]
        view = [tuple(number for _, number in self.of([one])) for one in shown]
        for pair in itertools.combinations(shown, 2):
            if ("shares",) + pair in self.permits:
                view.append(tuple(self.of(pair)))
        return tuple(view) if letter in self.moving else ()

    def same(self, letter, values):
        return sorted(values) if letter in self.ground.commuting() else list(values)

    def use(self, letter, values):
        for told, names, end in self.ground.facts():
            if told == letter:
                if self.same(letter, [("value", name) for name in names]) == self.same(letter, values):
                    if end[0] == "fail":
                        raise Failed(end)
                    return end
        key = (self.same(letter, values), self.view(letter))
        if key not in self.numbers[letter]:
            self.numbers[letter].append(key)
        number = self.numbers[letter].index(key) + 1
        self.history.append((letter, number, tuple(values), key[1]))
        if ("stays", letter) in self.permits and self.ask(("stays", letter, number)):
            raise Stayed()
        if ("fails", letter) in self.permits and self.ask(("fails", letter, number)):
            raise Failed(("failed", letter, number))
        return ("gave", letter, number)

    def true(self, value):
        if value[0] == "gave":
            return not self.ask(("true",) + value[1:])
        return value[1] != "false"

    def value(self, term, names):
        word, things = term[0], term[1:]
        if word == "value":
            return term
        if word == "name":
            return names[term[1]]
        if word == "fail":
            raise Failed(term)
        if word == "use":
            return self.use(term[1], [self.value(part, names) for part in term[2]])
        if word == "bind":
            return self.value(term[3], dict(names, **{term[1]: self.value(term[2], names)}))
        if word == "try":
            try:
                return self.value(things[0], names)
            except Failed:
                return self.value(things[1], names)
        if word == "last":
            return self.last(things, names)
        first = self.value(things[0], names)
        if word == "then":
            return self.value(things[1], names)
        truth = self.true(first)
        if word == "not":
            return ("value", "false" if truth else "true")
        if word == "if":
            return self.value(things[1 if truth else 2], names)
        return self.value(things[1], names) if truth == (word == "and") else first

    def last(self, things, names):
        try:
            value = self.value(things[0], names)
        except Failed as failed:
            self.value(things[1], names)
            raise failed
        self.value(things[1], names)
        return value

    def left(self):
        rows = [(letter, tuple(number for _, number in self.of([letter])))
                for letter in self.moving if ("writes", letter) in self.permits]
        rows += [pair + (tuple(self.of(pair)),) for pair in itertools.combinations(self.moving, 2)
                 if ("shares",) + pair in self.permits]
        return tuple(row for row in rows if row[-1])

    def run(self, term):
        self.history = []
        try:
            return ("value", self.value(term, {}), self.left())
        except Failed as failed:
            return ("fails", failed.failure, self.left())
        except Stayed:
            return ("stays", None, ())


def model_ways(ground, permits, terms):
    """All (bits, ends) of terms, by trying out each next bit."""
    def behind(bits):
        model = Model(ground, permits, bits)
        ends = tuple(model.run(term) for term in terms)
        if len(model.asked) == len(bits):
            return [(tuple(bits), ends)]
        return behind(bits + [0]) + behind(bits + [1])
    return behind([])


def model_related(relation, one, other):
    return (one == other or relation == "faults" and one[0] == other[0] == "fails" and one[2] == other[2]
            or relation == "no worse" and one[0] != "value")


def model_holds(ground, permits, one, other, relation="same"):
    return all(model_related(relation, *ends) for _, ends in model_ways(ground, permits, (one, other)))


def all_permits(ground):
    """All permits of a ground, each once."""
    every = Permits.full(ground).rows()
    found = {}
    for many in range(len(every) + 1):
        for rows in itertools.combinations(every, many):
            permits = Permits(ground, rows)
            found[tuple(permits.rows())] = permits
    return list(found.values())


def random_term(chance, ground, parts, names=(), uses=2):
    """A term with about so many parts, by chance."""
    if parts <= 1:
        simple = [("value", chance.choice(("a", "b", "true", "false"))), ("fail", chance.choice(("e", "f")))]
        simple += [("use", letter, ()) for letter, many in ground.letters().items() if many == 0] * uses
        simple += [("name", name) for name in names] * 2
        return chance.choice(simple)
    word = chance.choice(["if", "and", "or", "not", "then", "then", "bind", "bind", "try", "try", "last", "use", "use"])
    if word == "use":
        letter = chance.choice(list(ground))
        many = ground.letters()[letter]
        return ("use", letter, tuple(random_term(chance, ground, (parts - 1) // many, names) for _ in range(many)))
    if word == "bind":
        name = chance.choice(("v", "w"))
        return ("bind", name, random_term(chance, ground, (parts - 1) // 2, names),
                random_term(chance, ground, parts // 2, names + (name,)))
    many = {"if": 3, "not": 1}.get(word, 2)
    return (word,) + tuple(random_term(chance, ground, (parts - 1) // many, names) for _ in range(many))
