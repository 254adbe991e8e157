"""Orders of rows of letters that end alike."""

from freeworldrules.checks import check_ground
from freeworldrules.errors import BadTold, NoSuch, UnlikeRows
from freeworldrules.kinds import is_number
from freeworldrules.rows import check_row, row_letters


def hang(ground, permits):
    """The list of the pairs of letters, without parts and not fixed, that hang on one another, in order."""
    check_ground(ground, permits)
    return hanging_among(permits, row_letters(ground))


def row_term(ground, row, pair):
    """The term that evaluates the letters of a row and tells all their values by a letter with two parts."""
    if pair not in ground.fixed() or ground.parts_of(pair) != 2:
        raise BadTold(pair)
    check_row(ground, row)
    names = [("name", letter) for letter in ground if letter in row]
    term = names[-1] if len(names) > 0 else ("value", "true")
    for name in reversed(names[:-1]):
        term = ("use", pair, (name, term))
    for letter in reversed(list(row)):
        term = ("bind", letter, ("use", letter, ()), term)
    return term


def orders(ground, permits, row):
    """How many orders of a row are alike to it."""
    return _checked_orders(ground, permits, row).many_behind(0)


def first_order(ground, permits, row):
    """The first order, in the order of letters, that is alike to a row."""
    return _checked_orders(ground, permits, row).with_number(0)


def nth_order(ground, permits, row, n):
    """The order alike to a row with a number from 0."""
    alike = _checked_orders(ground, permits, row)
    if not is_number(n) or not 0 <= n < alike.many_behind(0):
        raise NoSuch(n)
    return alike.with_number(n)


def order_number(ground, permits, row, other):
    """The number of another order of a row, None if it is not alike."""
    alike = _checked_two(ground, permits, row, other)
    return alike.number_in_order(other) if alike.is_alike(other) else None


def exchanges(ground, permits, row, other):
    """The least number of exchanges of neighbours that lead from a row to an alike one, or None."""
    alike = _checked_two(ground, permits, row, other)
    if not alike.is_alike(other):
        return None
    # two letters that stand in another order have to be exchanged once, and once is enough
    return len([one for place, one in enumerate(row) for behind in row[place + 1:]
                if other.index(behind) < other.index(one)])


def hanging_among(permits, letters):
    """The list of the pairs of letters that hang on one another, the one ahead first, in order."""
    rows = {row: True for row in permits}
    return [(one, other) for place, one in enumerate(letters) for other in letters[place + 1:]
            if _do_hang(rows, one, other)]


class Orders:
    """The orders of a row that are alike to it: each letter stands behind the earlier ones on which it hangs."""

    def __init__(self, ground, permits, row):
        self.members = [letter for letter in ground if letter in row]
        hanging = hanging_among(permits, list(row))
        # for each letter the letters, a bit for each, that have to stand ahead of it
        self.ahead = [sum([1 << place for place, one in enumerate(self.members) if (one, letter) in hanging])
                      for letter in self.members]
        # from the letters that stand already to the number of orders of the others
        self.many = {(1 << len(self.members)) - 1: 1}

    def many_behind(self, stood):
        """How many orders the letters have that do not stand already."""
        if stood not in self.many:
            self.many[stood] = sum([self.many_behind(stood | 1 << place) for place in self.places_behind(stood)])
        return self.many[stood]

    def places_behind(self, stood):
        """The list of the places of letters that can stand next."""
        return [place for place, ahead in enumerate(self.ahead) if stood >> place & 1 == 0 and ahead & stood == ahead]

    def with_number(self, number):
        """The order with a number from 0."""
        found = []
        stood = 0
        left = number
        while len(found) < len(self.members):
            for place in self.places_behind(stood):
                behind = self.many_behind(stood | 1 << place)
                if left < behind:
                    found.append(self.members[place])
                    stood = stood | 1 << place
                    break
                left = left - behind
        return found

    def is_alike(self, order):
        """Tells whether an order of the letters is one of these."""
        stood = 0
        for letter in order:
            place = self.members.index(letter)
            if self.ahead[place] & stood != self.ahead[place]:
                return False
            stood = stood | 1 << place
        return True

    def number_in_order(self, order):
        """The number of one of these orders."""
        number = 0
        stood = 0
        for letter in order:
            chosen = self.members.index(letter)
            places = self.places_behind(stood)
            number += sum([self.many_behind(stood | 1 << place) for place in places if place < chosen])
            stood = stood | 1 << chosen
        return number


def _do_hang(rows, one, other):
    if _fail_and(rows, one, other) or _fail_and(rows, other, one):
        return True
    return (("shows", one, other) in rows or ("shows", other, one) in rows
            or ("shares", one, other) in rows or ("shares", other, one) in rows)


def _fail_and(rows, one, other):
    """Tells whether one fails, and what the other one does is seen by that."""
    return ("fails", one) in rows and any([(word, other) in rows for word in ("fails", "writes", "stays")])


def _checked_orders(ground, permits, row):
    check_ground(ground, permits)
    check_row(ground, row)
    return Orders(ground, permits, row)


def _checked_two(ground, permits, row, other):
    alike = _checked_orders(ground, permits, row)
    check_row(ground, other)
    if sorted(row) != sorted(other):
        raise UnlikeRows()
    return alike
