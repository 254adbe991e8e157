"""Rounds of letters that can be evaluated in any order."""

from freeworldrules.checks import check_ground, check_most
from freeworldrules.kinds import is_list
from freeworldrules.orders import hanging_among
from freeworldrules.rows import check_row


def rounds(ground, permits, row, most=8):
    """The schedule of a row with the fewest rounds of at most so many letters, the first one of these."""
    check_ground(ground, permits)
    check_row(ground, row)
    check_most(most)
    return Schedules(ground, permits, row, most).first()


def is_schedule(ground, permits, row, thing):
    """Tells whether any object is a schedule of a row."""
    check_ground(ground, permits)
    check_row(ground, row)
    if not is_list(thing) or not all([_is_round(ground, row, one) for one in thing]):
        return False
    place_of = {letter: place for place, one in enumerate(thing) for letter in one}
    # as many letters as there are, none of them twice
    if len(place_of) != len(row) or sum([len(one) for one in thing]) != len(row):
        return False
    return all([place_of[ahead] < place_of[behind] for ahead, behind in hanging_among(permits, row)])


def chain(ground, permits, row):
    """The longest list of letters of a row each of which hangs on the next one, the first one of these."""
    check_ground(ground, permits)
    check_row(ground, row)
    hanging = hanging_among(permits, row)
    # for each letter, from the last one on, the chain that begins with it
    chains = {}
    for letter in reversed(list(row)):
        behind = [chains[other] for other in row if (letter, other) in hanging]
        chains[letter] = [letter] + max(behind, key=len, default=[])
    return max([chains[letter] for letter in row], key=len, default=[])


class Schedules:
    """The schedules of a row with rounds of at most so many letters."""

    def __init__(self, ground, permits, row, most):
        self.members = [letter for letter in ground if letter in row]
        self.most = most
        hanging = hanging_among(permits, row)
        # for each letter the letters, a bit for each, that have to stand in earlier rounds
        self.ahead = [sum([1 << place for place, one in enumerate(self.members) if (one, letter) in hanging])
                      for letter in self.members]
        # from the letters that stand already to the fewest rounds for the others
        self.fewest = {(1 << len(self.members)) - 1: 0}

    def first(self):
        """The first one of the schedules with the fewest rounds."""
        found = []
        stood = 0
        while self.fewest_behind(stood) > 0:
            places = self.best_round(stood)
            found.append(tuple([self.members[place] for place in places]))
            stood = _with_places(stood, places)
        return found

    def fewest_behind(self, stood):
        """The fewest rounds in which the letters can stand that do not stand already."""
        if stood not in self.fewest:
            behind = [self.fewest_behind(_with_places(stood, places)) for places in self.rounds_behind(stood)]
            self.fewest[stood] = 1 + min(behind)
        return self.fewest[stood]

    def best_round(self, stood):
        """The places of the letters of the first round behind which the fewest rounds are enough."""
        fewest = self.fewest_behind(stood) - 1
        return min([places for places in self.rounds_behind(stood)
                    if self.fewest_behind(_with_places(stood, places)) == fewest])

    def rounds_behind(self, stood):
        """The list of the rounds, as places of letters, that can come next."""
        free = [place for place, ahead in enumerate(self.ahead) if stood >> place & 1 == 0 and ahead & stood == ahead]
        found = [[]]
        for place in free:
            found = found + [[*places, place] for places in found if len(places) < self.most]
        return found[1:]


def _is_round(ground, row, thing):
    """Tells whether a thing is a list of letters of a row, one or more, in the order of letters."""
    if not is_list(thing) or len(thing) == 0 or not all([letter in row for letter in thing]):
        return False
    letters = list(ground)
    places = [letters.index(letter) for letter in thing]
    return places == sorted(places)


def _with_places(stood, places):
    return stood + sum([1 << place for place in places])
