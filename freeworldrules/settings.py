"""Settings: permits, laid out for the runs in the free world."""


class Setting:
    """What permits let the letters of their ground do, and what facts tell of these."""

    def __init__(self, permits):
        ground = permits.ground
        rows = permits.rows()
        fixed = ground.fixed()
        self.moving = [letter for letter in ground if letter not in fixed]
        self.commutes = {letter: True for letter in ground.commuting()}
        self.failing = {row[1]: True for row in rows if row[0] == "fails"}
        self.staying = {row[1]: True for row in rows if row[0] == "stays"}
        self.writing = [row[1] for row in rows if row[0] == "writes"]
        self.sharing = [row[1:] for row in rows if row[0] == "shares"]
        self.shown = {letter: [row[1] for row in rows if row[0] == "shows" and row[2] == letter] for letter in ground}
        self.shared = {letter: _pairs_among(self.sharing, self.shown[letter]) for letter in ground}
        self.known_ends = {}
        for letter, names, end in ground.facts():
            values = tuple([("value", name) for name in names])
            self.known_ends[(letter, self.in_either_order(letter, values))] = as_outcome(end)

    def in_either_order(self, letter, values):
        """The values as they are told apart: for a commuting letter exchanged ones are the same."""
        if letter in self.commutes:
            return tuple(sorted(values))
        return values

    def known_end(self, letter, values):
        """How a use ends as a fact tells, or None."""
        # most grounds have no facts, and this is asked at each use
        if len(self.known_ends) == 0:
            return None
        return self.known_ends.get((letter, self.in_either_order(letter, values)))

    def view(self, letter, recent):
        """What a letter can see of the evaluations ahead of it."""
        alone = [numbers_of(one, recent) for one in self.shown[letter]]
        return tuple(alone + [pairs_of(pair, recent) for pair in self.shared[letter]])

    def left(self, recent):
        """What evaluations leave behind them."""
        alone = [(letter, numbers_of(letter, recent)) for letter in self.writing]
        rows = alone + [(*pair, pairs_of(pair, recent)) for pair in self.sharing]
        return tuple([row for row in rows if len(row[-1]) > 0])


def numbers_of(letter, recent):
    """The numbers of a letter among evaluations, in their order."""
    return tuple([number for one, number in recent if one == letter])


def pairs_of(pair, recent):
    """The evaluations of two letters among others, in their order."""
    return tuple([met for met in recent if met[0] in pair])


def _pairs_among(pairs, letters):
    return [pair for pair in pairs if pair[0] in letters and pair[1] in letters]


def as_outcome(end):
    """The end that a fact tells, as parts end in runs."""
    if end[0] == "fail":
        return ("fails", end)
    return ("value", end)
