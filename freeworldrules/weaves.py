"""Weaves of several rows, and whether they are alike to the rows one behind the other."""

from math import factorial

from freeworldrules.checks import check_ground
from freeworldrules.errors import BadRows, BadWeave
from freeworldrules.kinds import is_list
from freeworldrules.orders import hanging_among
from freeworldrules.rows import row_letters


def serial(ground, permits, rows, weave):
    """The first tuple of row numbers such that a weave is alike to the rows in this order, or None."""
    edges = _checked_edges(ground, permits, rows, weave)
    found = []
    while len(found) < len(rows):
        waiting = [number for number in range(len(rows)) if number not in found]
        free = [number for number in waiting if not any([(one, number) in edges for one in waiting])]
        if len(free) == 0:
            return None
        found.append(free[0])
    return tuple(found)


def ring(ground, permits, rows, weave):
    """The first tuple of the fewest row numbers each of which hangs on the next one around, or None."""
    edges = _checked_edges(ground, permits, rows, weave)
    # from each row through greater ones, the first ones first, by one more each time
    paths = [[number] for number in range(len(rows))]
    while len(paths) > 0:
        for path in paths:
            if (path[-1], path[0]) in edges:
                return tuple(path)
        paths = [[*path, number] for path in paths for number in range(path[0] + 1, len(rows))
                 if number not in path and (path[-1], number) in edges]
    return None


def weaves(ground, permits, rows):
    """The pair of the numbers of all weaves of rows, and of those that are alike to the rows in some order."""
    check_ground(ground, permits)
    _check_rows(ground, rows)
    every = factorial(sum([len(row) for row in rows]))
    for row in rows:
        every = every // factorial(len(row))
    return every, Weaves(permits, rows).many_behind((0,) * len(rows), (0,) * len(rows))


class Weaves:
    """The weaves of rows that are alike to the rows in some order, letter by letter."""

    def __init__(self, permits, rows):
        self.strands = [list(row) for row in rows]
        self.hanging = {pair: True for pair in hanging_among(permits, _joined(rows))}
        self.many = {}

    def many_behind(self, stood, ahead):
        """In how many ways a weave can go on.

        So many letters of each row stood already, and each row has to be behind those that a mask tells.
        """
        if (stood, ahead) not in self.many:
            self.many[(stood, ahead)] = self._sum_behind(stood, ahead)
        return self.many[(stood, ahead)]

    def _sum_behind(self, stood, ahead):
        open_rows = [number for number, strand in enumerate(self.strands) if stood[number] < len(strand)]
        if len(open_rows) == 0:
            return 1
        found = 0
        for number in open_rows:
            now = tuple([many + 1 if other == number else many for other, many in enumerate(stood)])
            masks = self._ahead_behind(stood, ahead, number)
            if masks is not None:
                found += self.many_behind(now, self._without_ended(now, masks))
        return found

    def _ahead_behind(self, stood, ahead, number):
        """The masks behind the next letter of a row, None if a row had to be behind itself."""
        letter = self.strands[number][stood[number]]
        gained = 0
        for other, strand in enumerate(self.strands):
            if other != number and any([self._do_hang(one, letter) for one in strand[:stood[other]]]):
                gained = gained | 1 << other | ahead[other]
        if gained >> number & 1 == 1:
            return None
        return [mask | gained if other == number or mask >> number & 1 == 1 else mask
                for other, mask in enumerate(ahead)]

    def _without_ended(self, stood, masks):
        """The masks without the rows that have ended: nothing can come to stand ahead of these any more."""
        still = sum([1 << number for number, strand in enumerate(self.strands) if stood[number] < len(strand)])
        return tuple([mask & still for mask in masks])

    def _do_hang(self, one, other):
        return (one, other) in self.hanging or (other, one) in self.hanging


def _checked_edges(ground, permits, rows, weave):
    """The dict of the pairs of unlike row numbers such that a letter of the one hangs on a later one of the other."""
    check_ground(ground, permits)
    _check_rows(ground, rows)
    _check_weave(rows, weave)
    row_of = {letter: number for number, row in enumerate(rows) for letter in row}
    hanging = [(row_of[one], row_of[other]) for one, other in hanging_among(permits, weave)]
    return {pair: True for pair in hanging if pair[0] != pair[1]}


def _check_rows(ground, rows):
    if not is_list(rows):
        raise BadRows(0)
    letters = row_letters(ground)
    stood = []
    for index, row in enumerate(rows):
        if not is_list(row):
            raise BadRows(index)
        for letter in row:
            if letter not in letters or letter in stood:
                raise BadRows(index)
            stood.append(letter)


def _check_weave(rows, weave):
    if not is_list(weave):
        raise BadWeave(0)
    left = [list(row) for row in rows]
    for index, thing in enumerate(weave):
        begun = [row for row in left if len(row) > 0 and row[0] == thing]
        if len(begun) == 0:
            raise BadWeave(index)
        begun[0].pop(0)
    if any([len(row) > 0 for row in left]):
        raise BadWeave(len(weave))


def _joined(rows):
    return [letter for row in rows for letter in row]
