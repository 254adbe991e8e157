"""Rows of letters."""

from freeworldrules.errors import BadRow
from freeworldrules.kinds import is_list


def row_letters(ground):
    """The list of the letters that can stand in rows: those without parts that are not fixed, in order."""
    fixed = ground.fixed()
    return [letter for letter in ground if letter not in fixed and ground.parts_of(letter) == 0]


def check_letters(ground, row):
    """Raises BadRow for the first thing that is no letter for rows."""
    if not is_list(row):
        raise BadRow(0)
    letters = row_letters(ground)
    for index, letter in enumerate(row):
        if letter not in letters:
            raise BadRow(index)


def check_row(ground, row):
    """Raises BadRow for the first thing that is no letter for rows, or stood before."""
    if not is_list(row):
        raise BadRow(0)
    letters = row_letters(ground)
    for index, letter in enumerate(row):
        if letter not in letters or letter in row[:index]:
            raise BadRow(index)
