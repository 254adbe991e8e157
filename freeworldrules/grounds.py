"""Grounds: the letters of rules, and what is told of them."""

from freeworldrules.errors import BadCommuting, BadFact, BadFixed, BadLetter
from freeworldrules.kinds import is_list, is_name, is_number

MOST_PARTS = 2


class Ground:
    """Letters with the numbers of their parts, fixed and commuting ones, and facts."""

    def __init__(self, letters, fixed=(), commuting=(), facts=()):
        _check_letters(letters)
        _check_fixed(letters, fixed)
        _check_commuting(letters, fixed, commuting)
        self._facts = _facts_as_told(letters, fixed, commuting, facts)
        self._letters = dict(letters)
        # dicts are equal in any order, but here the order counts
        self._order = list(letters)
        self._fixed = [letter for letter in letters if letter in fixed]
        self._commuting = [letter for letter in letters if letter in commuting]
        # what runs ask over and over again: the letters that are not fixed, those that commute, the ends that are told
        self.moving = {letter: True for letter in letters if letter not in fixed}
        self.commutes = {letter: True for letter in self._commuting}
        self.known_ends = _ends_by_values(self._facts, self.commutes)
        # from all permissions, in order, to their places
        self.places = {row: place for place, row in enumerate(_all_permissions(self._order, list(self.moving)))}

    def letters(self):
        """The dict from the letters to the numbers of their parts."""
        return dict(self._letters)

    def fixed(self):
        """The list of the fixed letters, in the order of letters."""
        return list(self._fixed)

    def commuting(self):
        """The list of the commuting letters, in the order of letters."""
        return list(self._commuting)

    def facts(self):
        """The list of the facts, as told, each one of tuples throughout."""
        return list(self._facts)

    def parts_of(self, letter):
        """The number of parts of a letter, None if a string is no letter of this ground."""
        return self._letters.get(letter)

    def __len__(self):
        return len(self._order)

    def __contains__(self, letter):
        return isinstance(letter, str) and letter in self._letters

    def __iter__(self):
        return iter(self._order)

    def __eq__(self, other):
        return (isinstance(other, Ground)
                and self._order == other._order
                and self._letters == other._letters
                and self._fixed == other._fixed
                and self._commuting == other._commuting
                and self._facts == other._facts)


def _ends_by_values(facts, commutes):
    """The dict from letters and the values of their parts, sorted for commuting ones, to how they end."""
    ends = {}
    for letter, names, end in facts:
        values = tuple([("value", name) for name in (sorted(names) if letter in commutes else names)])
        ends[(letter, values)] = as_outcome(end)
    return ends


def as_outcome(end):
    """The end that a fact tells, as parts end in runs: the kind, and with what."""
    return ("fails" if end[0] == "fail" else "value", end)


def _all_permissions(letters, moving):
    fails = [("fails", letter) for letter in letters]
    stays = [("stays", letter) for letter in letters]
    writes = [("writes", letter) for letter in moving]
    shows = [("shows", one, other) for one in moving for other in moving]
    shares = [("shares", one, other) for place, one in enumerate(moving) for other in moving[place + 1:]]
    return fails + stays + writes + shows + shares


def _check_letters(letters):
    if not isinstance(letters, dict) or len(letters) == 0:
        raise BadLetter(None)
    for key, many in letters.items():
        if not is_name(key) or not is_number(many) or not 0 <= many <= MOST_PARTS:
            raise BadLetter(key)


def _check_fixed(letters, fixed):
    if not is_list(fixed):
        raise BadFixed(0)
    for index, letter in enumerate(fixed):
        # a thing that is no string may not even be asked for in a dict
        if not isinstance(letter, str) or letter not in letters or letter in fixed[:index]:
            raise BadFixed(index)


def _check_commuting(letters, fixed, commuting):
    if not is_list(commuting):
        raise BadCommuting(0)
    for index, letter in enumerate(commuting):
        if letter not in fixed or letters[letter] != 2 or letter in commuting[:index]:
            raise BadCommuting(index)


def _facts_as_told(letters, fixed, commuting, facts):
    if not is_list(facts):
        raise BadFact(0)
    told = {}
    for index, thing in enumerate(facts):
        if not _is_fact(letters, fixed, thing):
            raise BadFact(index)
        letter, values, end = thing
        # exchanged values of a commuting letter ask the same
        asked = (letter, tuple(sorted(values) if letter in commuting else values))
        if asked in told:
            raise BadFact(index)
        told[asked] = (letter, tuple(values), tuple(end))
    return list(told.values())


def _is_fact(letters, fixed, thing):
    if not is_list(thing) or len(thing) != 3:
        return False
    letter, values, end = thing
    if letter not in fixed or not is_list(values) or len(values) != letters[letter]:
        return False
    return all([is_name(value) for value in values]) and _is_told_end(end)


def _is_told_end(thing):
    if not is_list(thing) or len(thing) != 2:
        return False
    return thing[0] in ("value", "fail") and is_name(thing[1])
