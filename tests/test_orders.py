"""Points 30, 31 and 32: orders of rows that end alike."""

import itertools
import random
import unittest

from any_objects import any_objects
from freeworldrules.errors import BadRow, BadTold, NoSuch, UnlikeGrounds, UnlikeRows
from freeworldrules.grounds import Ground
from freeworldrules.orders import exchanges, first_order, hang, nth_order, order_number, orders, row_term
from freeworldrules.permits import Permits
from freeworldrules.rules import holds
from freeworldrules.terms import checked

# the letters stand in another order than the alphabet's
GROUND = Ground({"c": 0, "a": 0, "f": 1, "d": 0, "pair": 2, "b": 0, "k": 0, "g": 2}, ["pair", "k"], ["pair"])

FULL = Permits.full(GROUND)
NO = Permits(GROUND)

NINE = Ground({**{letter: 0 for letter in "ihgfedcba"}, "pair": 2}, ["pair"])


def permits(*rows):
    return Permits(GROUND, rows)


def use(letter):
    return ("use", letter, ())


def all_alike(ground, within, row):
    """All orders of a row that are alike to it, told anew: in the order of letters."""
    place = {letter: index for index, letter in enumerate(ground)}
    hanging = [set(pair) for pair in hang(ground, within)]

    def first(order, pair):
        return next(letter for letter in order if letter in pair)

    return [list(order) for order in itertools.permutations(sorted(row, key=place.get))
            if all(first(order, pair) == first(row, pair) for pair in hanging if pair <= set(row))]


class Hang(unittest.TestCase):
    def test_each_reason(self):
        for rows, pairs in (
                ([], []), ([("fails", "a")], []), ([("fails", "a"), ("fails", "c")], [("c", "a")]),
                ([("fails", "a"), ("writes", "c")], [("c", "a")]), ([("fails", "c"), ("writes", "a")], [("c", "a")]),
                ([("fails", "a"), ("stays", "c")], [("c", "a")]), ([("fails", "c"), ("stays", "a")], [("c", "a")]),
                ([("shows", "a", "c")], [("c", "a")]), ([("shows", "c", "a")], [("c", "a")]),
                ([("shares", "a", "c")], [("c", "a")])):
            self.assertEqual(hang(GROUND, permits(*rows)), pairs, rows)

    def test_what_is_no_reason(self):
        for rows in ([("fails", "a"), ("writes", "a"), ("stays", "a"), ("shows", "a", "a")],
                     [("writes", "a"), ("writes", "c")], [("stays", "a"), ("stays", "c")], [("stays", "a"), ("writes", "c")],
                     [("shows", "a", "a"), ("shows", "c", "c")], [("fails", "a"), ("fails", "k"), ("stays", "k")],
                     [("fails", "a"), ("fails", "f"), ("shows", "a", "f"), ("shares", "f", "a"), ("shows", "g", "c")]):
            self.assertEqual(hang(GROUND, permits(*rows)), [], rows)

    def test_in_order(self):
        self.assertEqual(hang(GROUND, FULL), [("c", "a"), ("c", "d"), ("c", "b"), ("a", "d"), ("a", "b"), ("d", "b")])
        self.assertEqual(hang(GROUND, permits(("shows", "b", "c"), ("stays", "d"), ("fails", "a"))),
                         [("c", "b"), ("a", "d"), ("a", "b")])

    def test_no_such_letters(self):
        ground = Ground({"f": 1, "k": 0}, ["k"])
        self.assertEqual(hang(ground, Permits.full(ground)), [])

    def test_it_holds(self):
        chance = random.Random(30)
        ground = Ground({"c": 0, "a": 0, "b": 0, "pair": 2}, ["pair"])
        every = [list(order) for order in itertools.permutations("abc")] + [["a", "b"], ["b", "a"], ["c", "a"], ["a", "c"]]
        for _ in range(60):
            rows = [row for row in Permits.full(ground) if chance.random() < chance.choice((0.05, 0.2))]
            within = Permits(ground, rows)
            one = chance.choice(every)
            for other in every:
                if sorted(one) == sorted(other):
                    good = holds(ground, within, row_term(ground, one, "pair"), row_term(ground, other, "pair"))
                    self.assertIs(other in all_alike(ground, within, one), good, (rows, one, other))


class RowTerm(unittest.TestCase):
    def test_binds_in_the_order_of_the_row_and_names_in_that_of_letters(self):
        a, c, d = ("name", "a"), ("name", "c"), ("name", "d")
        self.assertEqual(row_term(GROUND, ["d", "a", "c"], "pair"),
                         ("bind", "d", use("d"), ("bind", "a", use("a"), ("bind", "c", use("c"),
                          ("use", "pair", (c, ("use", "pair", (a, d))))))))
        self.assertEqual(row_term(GROUND, ("a", "d"), "pair"),
                         ("bind", "a", use("a"), ("bind", "d", use("d"), ("use", "pair", (a, d)))))

    def test_one_letter_and_none(self):
        self.assertEqual(row_term(GROUND, ["a"], "pair"), ("bind", "a", use("a"), ("name", "a")))
        self.assertEqual(row_term(GROUND, [], "pair"), ("value", "true"))
        self.assertEqual(row_term(GROUND, (), "pair"), ("value", "true"))

    def test_eight_letters(self):
        term = row_term(NINE, list("abcdefgh"), "pair")
        self.assertEqual(checked(NINE, term), term)
        for letter in "abcdefgh":
            self.assertEqual(term[:3], ("bind", letter, use(letter)))
            term = term[3]
        for letter in "hgfedcb":
            self.assertEqual((term[:2], term[2][0]), (("use", "pair"), ("name", letter)))
            term = term[2][1]
        self.assertEqual(term, ("name", "a"))

    def test_eight_letters_end_alike(self):
        row = list("abcdefgh")
        for within, good in ((Permits(NINE), True), (Permits.full(NINE), False),
                             (Permits(NINE, [("fails", "a")] + [("stays", "i"), ("fails", "i")]), True)):
            told = holds(NINE, within, row_term(NINE, row, "pair"), row_term(NINE, row[::-1], "pair"))
            self.assertIs(told, good)
            self.assertTrue(holds(NINE, within, row_term(NINE, row, "pair"), row_term(NINE, row, "pair")))

    def test_bad_told_ahead_of_bad_row(self):
        for pair in any_objects() + ["k", "f", "g", "a", "times", ["pair"], "Pair"]:
            for row in (["a"], 3, ["k"]):
                with self.assertRaises(BadTold) as caught:
                    row_term(GROUND, row, pair)
                self.assertIs(caught.exception.told, pair)


class Orders(unittest.TestCase):
    def test_how_many(self):
        row = ["d", "c", "b", "a"]
        self.assertEqual(orders(GROUND, NO, row), 24)
        self.assertEqual(orders(GROUND, FULL, row), 1)
        self.assertEqual(orders(GROUND, permits(("shows", "a", "b")), row), 12)
        self.assertEqual(orders(GROUND, permits(("shows", "a", "b"), ("shares", "c", "d")), row), 6)
        self.assertEqual(orders(GROUND, permits(("shows", "a", "b"), ("shows", "a", "c")), row), 8)
        for within in (NO, FULL):
            self.assertEqual([orders(GROUND, within, short) for short in ([], ["b"], ())], [1, 1, 1])

    def test_first(self):
        row = ["d", "b", "a", "c"]
        self.assertEqual(first_order(GROUND, NO, row), ["c", "a", "d", "b"])
        self.assertEqual(first_order(GROUND, FULL, row), row)
        self.assertEqual(first_order(GROUND, permits(("shows", "b", "c")), row), ["a", "d", "b", "c"])
        self.assertEqual(first_order(GROUND, permits(("shows", "b", "c")), ("c", "b")), ["c", "b"])
        self.assertEqual(first_order(GROUND, FULL, []), [])

    def test_nth(self):
        row = ["d", "b", "c"]
        within = permits(("shows", "b", "c"))
        self.assertEqual([nth_order(GROUND, within, row, n) for n in range(3)],
                         [["d", "b", "c"], ["b", "c", "d"], ["b", "d", "c"]])

    def test_numbers(self):
        within = permits(("shows", "b", "c"))
        told = [["d", "b", "c"], ["b", "c", "d"], ["b", "d", "c"]]
        for n, other in enumerate(told):
            for row in told:
                self.assertEqual(order_number(GROUND, within, row, other), n)
                self.assertEqual(order_number(GROUND, within, tuple(row), tuple(other)), n)
        self.assertIsNone(order_number(GROUND, within, ["d", "b", "c"], ["c", "b", "d"]))
        self.assertEqual(order_number(GROUND, within, [], []), 0)

    def test_all_of_them(self):
        chance = random.Random(32)
        for _ in range(60):
            within = permits(*[row for row in FULL if chance.random() < 0.07])
            row = chance.sample(["a", "b", "c", "d"], chance.randrange(5))
            alike = all_alike(GROUND, within, row)
            self.assertEqual(orders(GROUND, within, row), len(alike))
            self.assertEqual(first_order(GROUND, within, row), alike[0])
            self.assertEqual([nth_order(GROUND, within, row, n) for n in range(len(alike))], alike)
            for other in itertools.permutations(row):
                number = alike.index(list(other)) if list(other) in alike else None
                self.assertEqual(order_number(GROUND, within, row, other), number)

    def test_eight_letters(self):
        row = list("abcdefgh")
        none = Permits(NINE)
        self.assertEqual(orders(NINE, none, row), 40320)
        self.assertEqual(nth_order(NINE, none, row, 40319), row)
        self.assertEqual(first_order(NINE, none, row), row[::-1])
        self.assertEqual(order_number(NINE, none, row, row), 40319)
        self.assertEqual(exchanges(NINE, none, row, row[::-1]), 28)
        some = Permits(NINE, [("shows", one, other) for one, other in zip("abcdefg", "bcdefgh")])
        self.assertEqual(orders(NINE, some, row), 1)
        some = Permits(NINE, [("shows", "a", letter) for letter in "bcdefgh"])
        self.assertEqual(orders(NINE, some, row), 5040)
        self.assertEqual(order_number(NINE, some, row, nth_order(NINE, some, row, 4711)), 4711)
        self.assertEqual(orders(NINE, Permits.full(NINE), row), 1)

    def test_what_is_told_is_new_and_what_is_passed_stays(self):
        row = ["d", "b", "c"]
        for call in (lambda: first_order(GROUND, FULL, row), lambda: nth_order(GROUND, FULL, row, 0)):
            told = call()
            self.assertEqual((type(told), told), (list, row))
            told.clear()
            self.assertEqual(row, ["d", "b", "c"])


class Exchanges(unittest.TestCase):
    def least(self, within, row, other):
        """The least number of exchanges, by going through all that can be reached."""
        alike = [tuple(order) for order in all_alike(GROUND, within, row)]
        steps, many = {tuple(row)}, 0
        seen = set(steps)
        while tuple(other) not in steps and steps:
            steps = {order[:k] + (order[k + 1], order[k]) + order[k + 2:] for order in steps for k in range(len(row) - 1)}
            steps = {order for order in steps if order in alike and order not in seen}
            seen |= steps
            many += 1
        return many if steps else None

    def test_some(self):
        within = permits(("shows", "a", "b"))
        self.assertEqual(exchanges(GROUND, within, ["a", "b", "c"], ["a", "b", "c"]), 0)
        self.assertEqual(exchanges(GROUND, within, ["a", "b", "c"], ["a", "c", "b"]), 1)
        self.assertEqual(exchanges(GROUND, within, ("a", "b", "c"), ["c", "a", "b"]), 2)
        self.assertIsNone(exchanges(GROUND, within, ["a", "b", "c"], ["b", "a", "c"]))
        self.assertIsNone(exchanges(GROUND, FULL, ["a", "b"], ["b", "a"]))
        self.assertEqual(exchanges(GROUND, FULL, [], ()), 0)

    def test_by_all_that_can_be_reached(self):
        chance = random.Random(321)
        for _ in range(40):
            within = permits(*[row for row in FULL if chance.random() < 0.06])
            row = chance.sample(["a", "b", "c", "d"], chance.randrange(1, 5))
            for other in itertools.permutations(row):
                self.assertEqual(exchanges(GROUND, within, row, other), self.least(within, row, other))


class Errors(unittest.TestCase):
    def calls(self, within, row):
        return [lambda: orders(GROUND, within, row), lambda: first_order(GROUND, within, row),
                lambda: nth_order(GROUND, within, row, None), lambda: order_number(GROUND, within, row, 3),
                lambda: exchanges(GROUND, within, row, 3)]

    def bad_index(self, row):
        told = []
        for call in self.calls(FULL, row) + [lambda: row_term(GROUND, row, "pair"),
                                             lambda: order_number(GROUND, FULL, ["a", "b"], row),
                                             lambda: exchanges(GROUND, FULL, ["a", "b"], row)]:
            with self.assertRaises(BadRow) as caught:
                call()
            told.append(caught.exception.index)
        self.assertEqual(len(set(told)), 1)
        return told[0]

    def test_no_list(self):
        for thing in any_objects() + ["a", "ab"]:
            if not isinstance(thing, (list, tuple)):
                self.assertEqual(self.bad_index(thing), 0)

    def test_things_that_are_no_such_letters(self):
        for thing in any_objects() + ["f", "g", "pair", "k", "A", ["a"], ("a",)]:
            self.assertEqual(self.bad_index(["a", "d", thing, thing]), 2)
            self.assertEqual(self.bad_index((thing, "a", "a")), 0)

    def test_letters_that_stood_before(self):
        self.assertEqual(self.bad_index(["a", "a"]), 1)
        self.assertEqual(self.bad_index(["a", "b", "c", "b", 3]), 3)

    def test_unlike_grounds_first_of_all(self):
        other = Permits(Ground({"a": 0}))
        for call in self.calls(other, 3) + [lambda: hang(GROUND, other)]:
            with self.assertRaises(UnlikeGrounds):
                call()

    def test_no_such_number(self):
        within = permits(("shows", "a", "b"))
        for n in any_objects() + [12, -12, "0", [0]]:
            if not (type(n) is int and 0 <= n < 12):
                with self.assertRaises(NoSuch) as caught:
                    nth_order(GROUND, within, ["a", "b", "c", "d"], n)
                self.assertIs(caught.exception.number, n)
        self.assertEqual(len(nth_order(GROUND, within, ["a", "b", "c", "d"], 11)), 4)
        for n in (1, True, False, -1):
            with self.assertRaises(NoSuch):
                nth_order(GROUND, FULL, [], n)

    def test_unlike_rows(self):
        for call in (order_number, exchanges):
            for row, other in ((["a"], []), ([], ["a"]), (["a", "b"], ["a", "c"]), (["a", "b"], ["a"]), (["a"], ["a", "b"])):
                for within in (NO, FULL):
                    with self.assertRaises(UnlikeRows):
                        call(GROUND, within, row, other)
            with self.assertRaises(BadRow) as caught:
                call(GROUND, NO, ["a", "b"], ["c", "c"])
            self.assertEqual(caught.exception.index, 1)
            with self.assertRaises(BadRow) as caught:
                call(GROUND, NO, ["a", "b", "k"], ["k"])
            self.assertEqual(caught.exception.index, 2)


if __name__ == "__main__":
    unittest.main()
