"""Settings: permissions, laid out for the runs in the free world."""


class Setting:
    """What permissions let the letters of a ground do, and what facts tell of these."""

    def __init__(self, ground, rows):
        self.moving = ground.moving
        self.commutes = ground.commutes
        self.known_ends = ground.known_ends
        self.failing = {}
        self.staying = {}
        self.writing = []
        self.sharing = []
        # from letters to those that show them something, in order, and to the pairs of these that share
        self.shown = {}
        self.shared = {}
        for row in rows:
            self._let(row)
        for letter in self.shown:
            self.shared[letter] = [pair for pair in self.sharing if self._are_shown(pair, letter)]

    def _let(self, row):
        if row[0] == "fails":
            self.failing[row[1]] = True
        elif row[0] == "stays":
            self.staying[row[1]] = True
        elif row[0] == "writes":
            self.writing.append(row[1])
        elif row[0] == "shows":
            self.shown.setdefault(row[2], []).append(row[1])
        else:
            self.sharing.append(row[1:])

    def _are_shown(self, pair, letter):
        return pair[0] in self.shown[letter] and pair[1] in self.shown[letter]

    def in_either_order(self, letter, values):
        """The values as they are told apart: for a commuting letter exchanged ones are the same."""
        if letter in self.commutes:
            return tuple(sorted(values))
        return values

    def view(self, letter, recent):
        """What a letter can see of the evaluations ahead of it."""
        if letter not in self.shown:
            return ()
        alone = [numbers_of(one, recent) for one in self.shown[letter]]
        return tuple(alone + [pairs_of(pair, recent) for pair in self.shared[letter]])

    def recent_behind(self, letter, number, recent):
        """The evaluations (letter, number) of letters that are not fixed, each once, by their last occurrence."""
        if letter not in self.moving:
            return recent
        met = (letter, number)
        if met in recent:
            return tuple([one for one in recent if one != met]) + (met,)
        return recent + (met,)

    def left(self, recent):
        """What evaluations leave behind them."""
        alone = [(letter, numbers_of(letter, recent)) for letter in self.writing]
        rows = alone + [(*pair, pairs_of(pair, recent)) for pair in self.sharing]
        return tuple([row for row in rows if len(row[-1]) > 0])


def numbers_of(letter, recent):
    """The numbers of a letter among evaluations, in their order."""
    return tuple([number for one, number in recent if one == letter])


def pairs_of(pair, recent):
    """The evaluations of two letters among others, in their order."""
    return tuple([met for met in recent if met[0] in pair])
