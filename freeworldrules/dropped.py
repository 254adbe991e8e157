"""Rows of letters whose values are dropped."""

from freeworldrules.checks import check_ground
from freeworldrules.relations import end_alike
from freeworldrules.rows import check_letters
from freeworldrules.settings import Setting
from freeworldrules.worlds import ByBits, closed


def dropped(ground, row):
    """The term that evaluates the letters of a row one after another and drops all their values."""
    check_letters(ground, row)
    return _term(row)


def can_go(ground, permits, row):
    """The list of the places of a row each of which can be left out alone."""
    check_ground(ground, permits)
    check_letters(ground, row)
    setting = Setting(ground, permits)
    doing, fewest = _doing(setting, row)
    every = list(range(len(row)))
    found = []
    for gone in every:
        left = [place for place in every if place != gone]
        if gone not in doing or len(doing) > fewest and _is_alike(setting, row, left):
            found.append(gone)
    return found


def shortest(ground, permits, row):
    """The shortest row that ends alike and is got by leaving places out."""
    check_ground(ground, permits)
    check_letters(ground, row)
    setting = Setting(ground, permits)
    doing, fewest = _doing(setting, row)
    for many in range(fewest, len(doing)):
        for places in _choices(doing, many):
            if _is_alike(setting, row, places):
                return [row[place] for place in places]
    return [row[place] for place in doing]


def _term(letters):
    term = ("value", "true")
    for letter in reversed(list(letters)):
        term = ("then", ("use", letter, ()), term)
    return term


def _doing(setting, row):
    """The list of the places of letters that do anything, and how many of them are needed at least.

    What does nothing can go, whatever is around it. Of what does something, each evaluation has to be met again, for it
    can fail or stay alone, or is left behind.
    """
    doing = [place for place, letter in enumerate(row)
             if letter in setting.failing or letter in setting.staying or letter in setting.writing]
    world = ByBits(setting, ())
    met = world.live(closed([_term(row)]), lambda _: list(world.met))
    return doing, len({met[place][:2]: True for place in doing})


def _is_alike(setting, row, places):
    """Tells whether a row ends alike if only these of its places are left."""
    return end_alike(setting, _term(row), _term([row[place] for place in places]))


def _choices(places, many):
    """The list of the lists of so many of some places, in their order, in order."""
    if many == 0:
        return [[]]
    return [[place, *behind] for at, place in enumerate(places) for behind in _choices(places[at + 1:], many - 1)]
