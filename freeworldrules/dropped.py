"""Rows of letters whose values are dropped."""

from freeworldrules.checks import check_ground
from freeworldrules.rows import check_letters
from freeworldrules.rules import holds


def dropped(ground, row):
    """The term that evaluates the letters of a row one after another and drops all their values."""
    check_letters(ground, row)
    term = ("value", "true")
    for letter in reversed(list(row)):
        term = ("then", ("use", letter, ()), term)
    return term


def can_go(ground, permits, row):
    """The list of the places of a row each of which can be left out alone."""
    check_ground(ground, permits)
    check_letters(ground, row)
    every = list(range(len(row)))
    return [gone for gone in every if _is_alike(ground, permits, row, [place for place in every if place != gone])]


def shortest(ground, permits, row):
    """The shortest row that ends alike and is got by leaving places out."""
    check_ground(ground, permits)
    check_letters(ground, row)
    for many in range(len(row)):
        for places in _choices(0, len(row), many):
            if _is_alike(ground, permits, row, places):
                return [row[place] for place in places]
    return list(row)


def _is_alike(ground, permits, row, places):
    """Tells whether a row ends alike if only these of its places are left."""
    return holds(ground, permits, dropped(ground, row), dropped(ground, [row[place] for place in places]))


def _choices(first, end, many):
    """The list of the ascending lists of so many places from first to end, in order."""
    if many == 0:
        return [[]]
    return [[place, *behind] for place in range(first, end - many + 1)
            for behind in _choices(place + 1, end, many - 1)]
