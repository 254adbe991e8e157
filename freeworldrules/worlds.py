"""The free world: runs of terms, the questions that they ask, and how they end."""

from freeworldrules.bits import bits_behind
from freeworldrules.settings import Setting

TRUE = ("value", "true")
FALSE = ("value", "false")


class World:
    """The free world as far as bits have shown it: terms are run in it one behind the other."""

    def __init__(self, setting, bits):
        self.setting = setting
        self.bits = bits
        # from the questions to their answers, in the order in which they were asked
        self.answers = {}
        self.numbers = {}
        self.highest = {letter: 0 for letter in setting.shown}
        self.runs = []
        self.ends = []

    def live(self, term, names):
        """Runs a term from the beginning, with the numbers and answers so far; names have values already."""
        run = Run(self)
        kind, what = outcome(run, term, names, ())
        # behind what never ends nothing is seen
        left = () if kind == "stays" else self.setting.left(run.recent)
        self.runs.append(run)
        self.ends.append((kind, what, left))

    def answer(self, question):
        """The bit that answers a question, the same one each time; behind all bits it is 0."""
        if question not in self.answers:
            place = len(self.answers)
            self.answers[question] = self.bits[place] if place < len(self.bits) else 0
        return self.answers[question]

    def asked_bits(self):
        """The answers to all questions, in the order in which they were asked."""
        return tuple(self.answers.values())

    def known_end(self, letter, values):
        """How a use ends as a fact tells, or None."""
        return self.setting.known_end(letter, values)

    def number_of(self, run, letter, values):
        """The number of the evaluation that a run comes to, which is noted in the run."""
        view = self.setting.view(letter, run.recent)
        seen = (letter, self.setting.in_either_order(letter, values), view)
        if seen not in self.numbers:
            self.numbers[seen] = self.new_number(letter)
        number = self.numbers[seen]
        run.met.append((letter, number, values, view))
        return number

    def new_number(self, letter):
        """The number of an evaluation of a letter that is first met."""
        self.highest[letter] += 1
        return self.highest[letter]


class Run:
    """One run in a world: what was evaluated in it, and to which parts it came."""

    def __init__(self, world):
        self.world = world
        # all evaluations (letter, number, values, view)
        self.met = []
        # those of letters that are not fixed, (letter, number), each once, by their last occurrence
        self.recent = []
        self.reached = {}

    def is_true(self, value):
        """Tells whether a value is true, which is asked where it is no name's."""
        if value[0] == "gave":
            return self.world.answer(("true", value[1], value[2])) == 0
        return value != FALSE

    def times(self, letter):
        """How often a letter was evaluated."""
        return len([met for met in self.met if met[0] == letter])

    def use(self, letter, values):
        """How a use of a letter ends whose parts have these values."""
        setting = self.world.setting
        told = self.world.known_end(letter, values)
        if told is not None:
            return told
        number = self.world.number_of(self, letter, values)
        if letter in setting.moving:
            met = (letter, number)
            # a new list each time, for others keep the one of an earlier evaluation
            self.recent = [one for one in self.recent if one != met] + [met]
        if letter in setting.staying and self.world.answer(("stays", letter, number)) == 1:
            return ("stays", None)
        if letter in setting.failing and self.world.answer(("fails", letter, number)) == 1:
            return ("fails", ("failed", letter, number))
        return ("value", ("gave", letter, number))


def world_by(permits, terms, bits):
    """The world in which terms are run one behind the other by bits."""
    return _lived(Setting(permits), terms, {}, bits)


def all_worlds(permits, terms, names):
    """The list of the worlds of all ways of terms, in ascending order of the bits; names have values already."""
    setting = Setting(permits)
    found = []
    bits = ()
    while bits is not None:
        world = _lived(setting, terms, names, bits)
        found.append(world)
        bits = bits_behind(world.asked_bits())
    return found


def first_world(permits, terms, is_wanted):
    """The first one of these worlds, without names, that is wanted, or None."""
    setting = Setting(permits)
    bits = ()
    while bits is not None:
        world = _lived(setting, terms, {}, bits)
        if is_wanted(world):
            return world
        bits = bits_behind(world.asked_bits())
    return None


def _lived(setting, terms, names, bits):
    world = World(setting, bits)
    for term in terms:
        world.live(term, names)
    return world


def outcome(run, term, names, path):
    """How a part of a term ends in a run: with a value, fails or stays, and which one."""
    run.reached[path] = True
    if term[0] == "value":
        return ("value", term)
    if term[0] == "name":
        return ("value", names[term[1]])
    if term[0] == "fail":
        return ("fails", term)
    step = STEPS[term[0]]
    return step(run, term, names, path)


def _use(run, term, names, path):
    values = []
    for place, part in enumerate(term[2]):
        end = outcome(run, part, names, path + (place,))
        if end[0] != "value":
            return end
        values.append(end[1])
    return run.use(term[1], tuple(values))


def _if(run, term, names, path):
    end = outcome(run, term[1], names, path + (0,))
    if end[0] != "value":
        return end
    if run.is_true(end[1]):
        return outcome(run, term[2], names, path + (1,))
    return outcome(run, term[3], names, path + (2,))


def _and(run, term, names, path):
    end = outcome(run, term[1], names, path + (0,))
    if end[0] != "value" or not run.is_true(end[1]):
        return end
    return outcome(run, term[2], names, path + (1,))


def _or(run, term, names, path):
    end = outcome(run, term[1], names, path + (0,))
    if end[0] != "value" or run.is_true(end[1]):
        return end
    return outcome(run, term[2], names, path + (1,))


def _not(run, term, names, path):
    end = outcome(run, term[1], names, path + (0,))
    if end[0] != "value":
        return end
    return ("value", FALSE if run.is_true(end[1]) else TRUE)


def _then(run, term, names, path):
    end = outcome(run, term[1], names, path + (0,))
    if end[0] != "value":
        return end
    return outcome(run, term[2], names, path + (1,))


def _bind(run, term, names, path):
    end = outcome(run, term[2], names, path + (0,))
    if end[0] != "value":
        return end
    return outcome(run, term[3], {**names, term[1]: end[1]}, path + (1,))


def _try(run, term, names, path):
    end = outcome(run, term[1], names, path + (0,))
    if end[0] != "fails":
        return end
    return outcome(run, term[2], names, path + (1,))


def _last(run, term, names, path):
    end = outcome(run, term[1], names, path + (0,))
    if end[0] == "stays":
        return end
    behind = outcome(run, term[2], names, path + (1,))
    return end if behind[0] == "value" else behind


STEPS = {"use": _use, "if": _if, "and": _and, "or": _or, "not": _not, "then": _then, "bind": _bind, "try": _try,
         "last": _last}
