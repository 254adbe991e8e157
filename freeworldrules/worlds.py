"""The free world: all ways of terms in it, one after another."""

from freeworldrules.steps import FALSE, outcome


class World:
    """The free world as far as a way has shown it; a way is gone back from where another one leaves it.

    What goes on behind a part is passed on as a function. It tells whether to stop; the world is of no use then.
    """

    def __init__(self, setting):
        self.setting = setting
        # from the questions of this way to their answers, in the order in which they were asked
        self.answers = {}
        # from letters, their values and views to the numbers of evaluations, and the highest one for each letter
        self.numbers = {}
        self.highest = {}
        # all evaluations (letter, number, values, view) of this way
        self.met = []
        # the paths to which this way came, of those that were asked for
        self.reached = []

    def live(self, terms, behind):
        """Runs terms, pairs of one and of the values of its names, one behind the other in all ways."""
        return self.live_on(terms, (), behind)

    def live_on(self, terms, ends, behind):
        """Runs the terms behind those that have ended."""
        if len(ends) == len(terms):
            return behind(ends)
        term, names = terms[len(ends)]
        return outcome(self, term, names, (), lambda kind, what, recent:
                       self.live_on(terms, (*ends, (kind, what, recent)), behind))

    def asked_bits(self):
        """The answers to all questions of this way, in the order in which they were asked."""
        return tuple(self.answers.values())

    def ask(self, question, behind):
        """Goes on behind a question, with both answers where it was not asked yet."""
        answers = self.answers
        if question in answers:
            return behind(answers[question])
        answers[question] = 0
        if behind(0):
            return True
        answers[question] = 1
        stop = behind(1)
        del answers[question]
        return stop

    def truth(self, value, behind):
        """Goes on with 0 for a value that is true, else with 1; it is asked where the value is no name's."""
        if value[0] == "gave":
            return self.ask(("true", value[1], value[2]), behind)
        return behind(1 if value == FALSE else 0)

    def use(self, letter, values, recent, behind):
        """Goes on behind a use of a letter whose parts have these values."""
        setting = self.setting
        told = setting.in_either_order(letter, values)
        if (letter, told) in setting.known_ends:
            kind, what = setting.known_ends[(letter, told)]
            return behind(kind, what, recent)
        return self.use_untold(letter, values, told, recent, behind)

    def use_untold(self, letter, values, told, recent, behind):
        """Goes on behind a use that no fact tells, the values being told apart as they are told."""
        view = self.setting.view(letter, recent)
        seen = (letter, told, view)
        if seen in self.numbers:
            return self.evaluate((letter, self.numbers[seen], values, view), recent, behind)
        number = self.new_number(letter)
        self.numbers[seen] = number
        stop = self.evaluate((letter, number, values, view), recent, behind)
        del self.numbers[seen]
        self.highest[letter] = number - 1
        return stop

    def new_number(self, letter):
        """The number of an evaluation of a letter that is first met."""
        number = self.highest.get(letter, 0) + 1
        self.highest[letter] = number
        return number

    def evaluate(self, met, recent, behind):
        """Goes on behind an evaluation (letter, number, values, view)."""
        letter, number = met[0], met[1]
        setting = self.setting
        now = setting.recent_behind(letter, number, recent)
        self.met.append(met)
        if letter in setting.staying:
            stop = self.ask(("stays", letter, number), lambda bit:
                            self.end(letter, number, now, behind) if bit == 0 else behind("stays", None, ()))
        else:
            stop = self.end(letter, number, now, behind)
        self.met.pop()
        return stop

    def end(self, letter, number, recent, behind):
        """Goes on behind an evaluation that does not stay."""
        if letter not in self.setting.failing:
            return behind("value", ("gave", letter, number), recent)
        return self.ask(("fails", letter, number), lambda bit:
                        behind("value", ("gave", letter, number), recent) if bit == 0
                        else behind("fails", ("failed", letter, number), recent))

    def end_of(self, end):
        """An end (kind, what, recent) as it is told: with what is left."""
        # behind what never ends nothing is seen
        return (end[0], end[1], self.setting.left(end[2]))


class ByBits(World):
    """The free world in which bits answer the questions; behind all bits it is 0."""

    def __init__(self, setting, bits):
        World.__init__(self, setting)
        self.given = bits

    def ask(self, question, behind):
        """Goes on behind a question with the one answer that is given."""
        if question not in self.answers:
            place = len(self.answers)
            self.answers[question] = self.given[place] if place < len(self.given) else 0
        return behind(self.answers[question])


def closed(terms):
    """Terms without names outside of them, as they can live in a world."""
    return [(term, {}) for term in terms]


def with_own_values(names, body):
    """A body, as it can live in a world, whose names have values of letters of their own, the same ones by places."""
    # no letter is called so, and so they have no permission
    return (body, {name: ("gave", str(place), 1) for place, name in enumerate(names)})


def times(letter, met):
    """How often a letter is among evaluations."""
    return len([one for one in met if one[0] == letter])
