"""Orders of rows of letters that end alike."""

from freeworldrules.checks import check_ground
from freeworldrules.errors import BadTold, NoSuch, UnlikeRows
from freeworldrules.kinds import is_number
from freeworldrules.rows import check_row, row_letters


def hang(ground, permits):
    """The list of the pairs of letters, without parts and not fixed, that hang on one another, in order."""
    check_ground(ground, permits)
    letters = row_letters(ground)
    return [(one, other) for place, one in enumerate(letters) for other in letters[place + 1:]
            if _do_hang(permits, one, other)]


def row_term(ground, row, pair):
    """The term that evaluates the letters of a row and tells all their values by a letter with two parts."""
    if pair not in ground.fixed() or ground.parts_of(pair) != 2:
        raise BadTold(pair)
    check_row(ground, row)
    names = [("name", letter) for letter in ground if letter in row]
    term = names[-1] if len(names) > 0 else ("value", "true")
    for name in reversed(names[:-1]):
        term = ("use", pair, (name, term))
    for letter in reversed(list(row)):
        term = ("bind", letter, ("use", letter, ()), term)
    return term


def orders(ground, permits, row):
    """How many orders of a row are alike to it."""
    return _checked_orders(ground, permits, row).many[0]


def first_order(ground, permits, row):
    """The first order, in the order of letters, that is alike to a row."""
    return _checked_orders(ground, permits, row).with_number(0)


def nth_order(ground, permits, row, n):
    """The order alike to a row with a number from 0."""
    alike = _checked_orders(ground, permits, row)
    if not is_number(n) or not 0 <= n < alike.many[0]:
        raise NoSuch(n)
    return alike.with_number(n)


def order_number(ground, permits, row, other):
    """The number of another order of a row, None if it is not alike."""
    alike = _checked_two(ground, permits, row, other)
    return alike.number_in_order(other)


def exchanges(ground, permits, row, other):
    """The least number of exchanges of neighbours that lead from a row to an alike one, or None."""
    alike = _checked_two(ground, permits, row, other)
    if alike.number_in_order(other) is None:
        return None
    # two letters that stand in another order have to be exchanged once, and once is enough
    return len([one for place, one in enumerate(row) for behind in row[place + 1:]
                if other.index(behind) < other.index(one)])


class Orders:
    """The orders of a row that are alike to it: each letter stands behind the earlier ones on which it hangs."""

    def __init__(self, ground, permits, row):
        hanging = hang(ground, permits)
        self.members = [letter for letter in ground if letter in row]
        # for each letter the letters, a bit for each, that have to stand ahead of it
        self.ahead = []
        for letter in self.members:
            earlier = row[:row.index(letter)]
            self.ahead.append(sum([1 << place for place, one in enumerate(self.members)
                                   if one in earlier and ((one, letter) in hanging or (letter, one) in hanging)]))
        # from the letters that stand already to the number of orders of the others
        self.many = {}
        every = (1 << len(self.members)) - 1
        self.many[every] = 1
        for stood in reversed(range(every)):
            self.many[stood] = sum([self.many[stood | 1 << place] for place in self.places_behind(stood)])

    def places_behind(self, stood):
        """The list of the places of letters that can stand next."""
        return [place for place in range(len(self.members))
                if stood >> place & 1 == 0 and self.ahead[place] & stood == self.ahead[place]]

    def with_number(self, number):
        """The order with a number from 0."""
        found = []
        stood = 0
        left = number
        while len(found) < len(self.members):
            for place in self.places_behind(stood):
                behind = self.many[stood | 1 << place]
                if left < behind:
                    found.append(self.members[place])
                    stood = stood | 1 << place
                    break
                left = left - behind
        return found

    def number_in_order(self, order):
        """The number of an order of the letters, None if it is not alike."""
        number = 0
        stood = 0
        for letter in order:
            chosen = self.members.index(letter)
            places = self.places_behind(stood)
            if chosen not in places:
                return None
            number += sum([self.many[stood | 1 << place] for place in places if place < chosen])
            stood = stood | 1 << chosen
        return number


def _do_hang(permits, one, other):
    if _fail_and(permits, one, other) or _fail_and(permits, other, one):
        return True
    rows = [("shows", one, other), ("shows", other, one), ("shares", one, other)]
    return any([row in permits for row in rows])


def _fail_and(permits, one, other):
    """Tells whether one fails, and what the other one does is seen by that."""
    return ("fails", one) in permits and any([(word, other) in permits for word in ("fails", "writes", "stays")])


def _checked_orders(ground, permits, row):
    check_ground(ground, permits)
    check_row(ground, row)
    return Orders(ground, permits, row)


def _checked_two(ground, permits, row, other):
    alike = _checked_orders(ground, permits, row)
    check_row(ground, other)
    if sorted(row) != sorted(other):
        raise UnlikeRows()
    return alike
