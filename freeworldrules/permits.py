"""Permits: what the letters of a ground may do."""

from freeworldrules.errors import BadPermit, NoRow, UnlikeGrounds
from freeworldrules.kinds import is_list


class Permits:
    """Permissions of the letters of a ground, with those that they bring."""

    def __init__(self, ground, rows=()):
        had = {row: True for row in rows_always(ground)}
        for row in _checked_rows(ground, rows):
            for brought in with_brought(row):
                had[brought] = True
        self.ground = ground
        self._rows = {row: True for row in in_order(ground, had)}

    def rows(self):
        """The list of the permissions, in order."""
        return list(self._rows)

    def without(self, row):
        """The permits without a row and those that bring it, or NoRow."""
        gone = _row_among(self._rows, row)
        if gone is None or gone in rows_always(self.ground):
            raise NoRow(row)
        return permits_with(self.ground, [kept for kept in self._rows if gone not in with_brought(kept)])

    def within(self, other):
        """Tells whether the other permits have all rows of these."""
        _check_like(self, other)
        return all([row in other._rows for row in self._rows])

    def joined(self, other):
        """The permits with the rows of either."""
        _check_like(self, other)
        return permits_with(self.ground, in_order(self.ground, {**self._rows, **other._rows}))

    def common(self, other):
        """The permits with the rows of both."""
        _check_like(self, other)
        return permits_with(self.ground, [row for row in self._rows if row in other._rows])

    @staticmethod
    def full(ground):
        """The permits of a ground with all permissions."""
        return permits_with(ground, list(ground.places))

    def __len__(self):
        return len(self._rows)

    def __contains__(self, row):
        return _row_among(self._rows, row) is not None

    def __iter__(self):
        return iter(self._rows)

    def __eq__(self, other):
        return isinstance(other, Permits) and self.ground == other.ground and self._rows == other._rows


def permits_with(ground, rows):
    """The permits with just these permissions, which are in order, with all that they bring and that is always had."""
    permits = Permits(ground)
    permits._rows = {row: True for row in rows}
    return permits


def in_order(ground, rows):
    """The list of permissions of a ground in their order."""
    return sorted(rows, key=lambda row: ground.places[row])


def rows_always(ground):
    """The rows of all permits of a ground: a letter fails where a fact tells it."""
    told = {letter: True for letter, _, end in ground.facts() if end[0] == "fail"}
    return [("fails", letter) for letter in told]


def with_brought(row):
    """The list of a row and those that it brings: who shows or shares something writes."""
    if row[0] == "shows":
        return [row, ("writes", row[1])]
    if row[0] == "shares":
        return [row, ("writes", row[1]), ("writes", row[2])]
    return [row]


def _checked_rows(ground, rows):
    if not is_list(rows):
        raise BadPermit(0)
    found = []
    for index, thing in enumerate(rows):
        row = _row_among(ground.places, thing)
        if row is None:
            raise BadPermit(index)
        found.append(row)
    return found


def _row_among(known, thing):
    """The one of the known rows that a thing tells, shares in either order, or None."""
    # things that are no strings may not even be asked for in a dict
    if not is_list(thing) or not all([isinstance(part, str) for part in thing]):
        return None
    row = tuple(thing)
    if len(row) == 3 and row[0] == "shares" and row not in known:
        row = ("shares", row[2], row[1])
    return row if row in known else None


def _check_like(one, other):
    if one.ground != other.ground:
        raise UnlikeGrounds()
