"""Rows of letters whose values are dropped."""

from freeworldrules.checks import check_ground
from freeworldrules.relations import end_alike
from freeworldrules.rows import check_letters
from freeworldrules.settings import Setting


def dropped(ground, row):
    """The term that evaluates the letters of a row one after another and drops all their values."""
    check_letters(ground, row)
    return _term(row)


def can_go(ground, permits, row):
    """The list of the places of a row each of which can be left out alone."""
    check_ground(ground, permits)
    check_letters(ground, row)
    setting = Setting(ground, permits)
    return [place for place in range(len(row)) if _can_go(setting, row, place)]


def shortest(ground, permits, row):
    """The shortest row that ends alike and is got by leaving places out."""
    check_ground(ground, permits)
    check_letters(ground, row)
    setting = Setting(ground, permits)
    doing = [place for place, letter in enumerate(row) if _does_anything(setting, letter)]
    # of what does something at least one has to be left
    letters = {row[place]: True for place in doing}
    for many in range(len(letters), len(doing)):
        for places in _choices(doing, many):
            left = [row[place] for place in places]
            if all([letter in left for letter in letters]) and _is_alike(setting, row, places):
                return left
    return [row[place] for place in doing]


def _can_go(setting, row, place):
    if not _does_anything(setting, row[place]):
        return True
    others = [other for other in range(len(row)) if other != place]
    return row[place] in [row[other] for other in others] and _is_alike(setting, row, others)


def _term(letters):
    term = ("value", "true")
    for letter in reversed(list(letters)):
        term = ("then", ("use", letter, ()), term)
    return term


def _does_anything(setting, letter):
    """Tells whether evaluating a letter can be seen: what does nothing can go, whatever is around it."""
    return letter in setting.failing or letter in setting.staying or letter in setting.writing


def _is_alike(setting, row, places):
    """Tells whether a row ends alike if only these of its places are left."""
    return end_alike(setting, _term(row), _term([row[place] for place in places]))


def _choices(places, many):
    """The list of the lists of so many of some places, in their order, in order."""
    if many == 0:
        return [[]]
    return [[place, *behind] for at, place in enumerate(places) for behind in _choices(places[at + 1:], many - 1)]
