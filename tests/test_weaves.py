"""Point 46: weaves of several rows."""

import copy
import itertools
import random
import unittest

from any_objects import any_objects
from freeworldrules.errors import BadRows, BadWeave, UnlikeGrounds
from freeworldrules.grounds import Ground
from freeworldrules.orders import hang, order_number, row_term
from freeworldrules.permits import Permits
from freeworldrules.rules import holds
from freeworldrules.weaves import ring, serial, weaves

GROUND = Ground({"a": 0, "b": 0, "pair": 2, "c": 0, "d": 0, "f": 1, "e": 0, "k": 0}, ["pair", "k"])

NONE, FULL = Permits(GROUND), Permits.full(GROUND)

LETTERS = ["a", "b", "c", "d", "e"]


def some_permits(chance, ground, share):
    return Permits(ground, [row for row in Permits.full(ground) if chance.random() < share])


def joined(rows):
    return [letter for row in rows for letter in row]


def all_weaves(rows):
    if not any(rows):
        return [[]]
    return [[row[0]] + behind for number, row in enumerate(rows) if row
            for behind in all_weaves([list(other)[number == place:] for place, other in enumerate(rows)])]


def serial_by_all(ground, permits, rows, weave):
    for order in itertools.permutations(range(len(rows))):
        if order_number(ground, permits, joined([rows[number] for number in order]), weave) is not None:
            return order
    return None


def ring_by_all(ground, permits, rows, weave):
    pairs = hang(ground, permits)
    row_of = {letter: number for number, row in enumerate(rows) for letter in row}
    edges = {(row_of[one], row_of[other]) for one, other in itertools.combinations(weave, 2)
             if ((one, other) in pairs or (other, one) in pairs)}
    for many in range(2, len(rows) + 1):
        for some in itertools.permutations(range(len(rows)), many):
            if some[0] == min(some) and all(edge in edges for edge in zip(some, some[1:] + some[:1])):
                return some
    return None


def drawn(chance, ground, letters):
    chosen = chance.sample(letters, chance.randrange(len(letters) + 1))
    rows = [[] for _ in range(chance.randrange(1, 5))]
    for letter in chosen:
        chance.choice(rows).append(letter)
    left = [list(row) for row in rows]
    weave = []
    while any(left):
        weave.append(chance.choice([row for row in left if row]).pop(0))
    return rows, weave


class Serial(unittest.TestCase):
    rows = [["a", "b"], ["c", "d"]]

    def test_none_that_hang(self):
        for weave in all_weaves(self.rows):
            self.assertEqual(serial(GROUND, NONE, self.rows, weave), (0, 1))
            self.assertIsNone(ring(GROUND, NONE, self.rows, weave))

    def test_what_hangs(self):
        permits = Permits(GROUND, [("shows", "a", "c"), ("shares", "b", "d")])
        self.assertEqual(serial(GROUND, permits, self.rows, ["a", "c", "b", "d"]), (0, 1))
        self.assertEqual(serial(GROUND, permits, self.rows, ["c", "d", "a", "b"]), (1, 0))
        self.assertIsNone(serial(GROUND, permits, self.rows, ["a", "c", "d", "b"]))
        self.assertEqual(ring(GROUND, permits, self.rows, ["a", "c", "d", "b"]), (0, 1))
        self.assertIsNone(ring(GROUND, permits, self.rows, ["a", "c", "b", "d"]))

    def test_the_first_order(self):
        rows = [["a"], ["b"], ["c"], ["d"]]
        permits = Permits(GROUND, [("shares", "a", "c")])
        self.assertEqual(serial(GROUND, permits, rows, ["d", "c", "b", "a"]), (1, 2, 0, 3))
        self.assertEqual(serial(GROUND, permits, rows, ["d", "a", "c", "b"]), (0, 1, 2, 3))

    def test_no_rows_and_empty_rows(self):
        self.assertEqual(serial(GROUND, FULL, [], []), ())
        self.assertIsNone(ring(GROUND, FULL, [], []))
        self.assertEqual(weaves(GROUND, FULL, []), (1, 1))
        self.assertEqual(serial(GROUND, FULL, [[], ["a"], []], ["a"]), (0, 1, 2))
        self.assertEqual(serial(GROUND, FULL, [[], [], []], ()), (0, 1, 2))
        self.assertEqual(serial(GROUND, FULL, [["b"], [], ["a"]], ["a", "b"]), (1, 2, 0))
        self.assertIsNone(ring(GROUND, FULL, [[], ["a"], []], ["a"]))
        self.assertEqual(weaves(GROUND, FULL, [[], ["a", "b"], []]), (1, 1))

    def test_by_all_orders(self):
        chance = random.Random(46)
        for _ in range(200):
            permits = some_permits(chance, GROUND, chance.choice((0.03, 0.1, 0.2)))
            rows, weave = drawn(chance, GROUND, LETTERS)
            told, around = serial(GROUND, permits, rows, weave), ring(GROUND, permits, rows, weave)
            self.assertEqual(told, serial_by_all(GROUND, permits, rows, weave))
            self.assertEqual(around, ring_by_all(GROUND, permits, rows, weave))
            # it holds: just one of both is None
            self.assertIs(told is None, around is not None)

    def test_the_terms_end_alike(self):
        chance = random.Random(460)
        for _ in range(40):
            permits = some_permits(chance, GROUND, 0.08)
            rows, weave = drawn(chance, GROUND, LETTERS[:4])
            orders = [joined([rows[number] for number in order]) for order in itertools.permutations(range(len(rows)))]
            alike = [order for order in orders
                     if holds(GROUND, permits, row_term(GROUND, weave, "pair"), row_term(GROUND, order, "pair"))]
            told = serial(GROUND, permits, rows, weave)
            if told is None:
                self.assertEqual(alike, [])
            else:
                self.assertEqual(joined([rows[number] for number in told]), alike[0])


class Ring(unittest.TestCase):
    def test_of_three_rows(self):
        rows = [["a", "b"], ["c", "d"], ["e"]]
        permits = Permits(GROUND, [("shares", "a", "c"), ("shares", "d", "e"), ("shares", "b", "e")])
        self.assertEqual(ring(GROUND, permits, rows, ["a", "c", "d", "e", "b"]), (0, 1, 2))
        self.assertIsNone(serial(GROUND, permits, rows, ["a", "c", "d", "e", "b"]))
        # the other way around
        rows = [["a", "b"], ["e"], ["c", "d"]]
        self.assertEqual(ring(GROUND, permits, rows, ["a", "c", "d", "e", "b"]), (0, 2, 1))

    def test_the_fewest_and_the_first(self):
        ground = Ground({letter: 0 for letter in "abcdefgh"})
        rows = [["a", "b"], ["c", "d"], ["e", "f"], ["g", "h"]]
        permits = Permits(ground, [("shares", "a", "c"), ("shares", "d", "e"), ("shares", "f", "b"),
                                   ("shares", "e", "g"), ("shares", "h", "f")])
        weave = ["a", "c", "d", "e", "g", "h", "f", "b"]
        self.assertEqual(ring(ground, permits, rows, weave), (2, 3))
        fewer = permits.without(("shares", "f", "h"))
        self.assertEqual(ring(ground, fewer, rows, weave), (0, 1, 2))
        more = permits.joined(Permits(ground, [("shares", "b", "d")]))
        # two rings of two rows
        self.assertEqual(ring(ground, more, rows, ["a", "c", "d", "b", "e", "g", "h", "f"]), (0, 1))
        self.assertEqual(ring(ground, more, rows, ["a", "b", "c", "d", "e", "g", "h", "f"]), (2, 3))

    def test_kinds(self):
        permits = Permits(GROUND, [("shares", "a", "c"), ("shares", "b", "d")])
        told = ring(GROUND, permits, [["a", "b"], ["c", "d"]], ["a", "c", "d", "b"])
        self.assertIs(type(told), tuple)
        self.assertIs(type(serial(GROUND, NONE, [["a", "b"], ["c", "d"]], ["a", "c", "d", "b"])), tuple)


class Numbers(unittest.TestCase):
    def test_some(self):
        rows = [["a", "b"], ["c", "d"]]
        self.assertEqual(weaves(GROUND, NONE, rows), (6, 6))
        self.assertEqual(weaves(GROUND, FULL, rows), (6, 2))
        self.assertEqual(weaves(GROUND, Permits(GROUND, [("shares", "a", "c"), ("shares", "b", "d")]), rows), (6, 4))
        self.assertEqual(weaves(GROUND, FULL, [["a"], ["b"], ["c"]]), (6, 6))
        self.assertIs(type(weaves(GROUND, NONE, rows)), tuple)

    def test_by_all_weaves(self):
        chance = random.Random(461)
        for _ in range(80):
            permits = some_permits(chance, GROUND, chance.choice((0.03, 0.1, 0.2)))
            rows, _ = drawn(chance, GROUND, LETTERS)
            every = all_weaves(rows)
            alike = [weave for weave in every if serial(GROUND, permits, rows, weave) is not None]
            self.assertEqual(weaves(GROUND, permits, rows), (len(every), len(alike)), (permits.rows(), rows))

    def test_what_comes_to_stand_ahead_of_a_row_later_on(self):
        # c is ahead of e, then a of d, and so the first row ahead of the third one; e is ahead of b
        rows = [["a", "b"], ["c", "d"], ["e"]]
        permits = Permits(GROUND, [("shares", "c", "e"), ("shares", "a", "d"), ("shares", "e", "b")])
        self.assertEqual(ring(GROUND, permits, rows, ["c", "e", "a", "d", "b"]), (0, 1, 2))
        every = all_weaves(rows)
        alike = [weave for weave in every if serial(GROUND, permits, rows, weave) is not None]
        self.assertEqual(weaves(GROUND, permits, rows), (30, len(alike)))
        self.assertLess(len(alike), 30)

    def test_of_longer_rows(self):
        chance = random.Random(462)
        ground = Ground({letter: 0 for letter in "abcdefg"})
        for _ in range(12):
            permits = some_permits(chance, ground, chance.choice((0.02, 0.05, 0.1)))
            rows, _ = drawn(chance, ground, "abcdefg")
            every = all_weaves(rows)
            alike = [weave for weave in every if serial(ground, permits, rows, weave) is not None]
            self.assertEqual(weaves(ground, permits, rows), (len(every), len(alike)), (permits.rows(), rows))


class WrongThings(unittest.TestCase):
    def test_grounds_come_first(self):
        other = Permits(Ground({"a": 0}))
        for call in (lambda: serial(GROUND, other, None, None), lambda: ring(GROUND, other, None, None),
                     lambda: weaves(GROUND, other, None)):
            with self.assertRaises(UnlikeGrounds):
                call()

    def test_rows(self):
        wrong = [(thing, 0) for thing in any_objects() + ["ab"] if not isinstance(thing, (list, tuple))]
        wrong += [([["a"], thing, None], 1) for thing in any_objects() + ["b", "bc"] if thing not in ([], ())]
        wrong += [([["a"], ["b", thing], None], 1) for thing in any_objects()]
        wrong += [([["a"], ["b", "a"]], 1), ([["a", "a"]], 0), ([["a"], [], ["b"], ["b"]], 3), ([["a"], ["k"]], 1),
                  ([["f"]], 0), ([["pair"], ["a"]], 0), ([["a"], ["b"], "c"], 2)]
        for rows, index in wrong:
            for call in (lambda: serial(GROUND, NONE, rows, None), lambda: ring(GROUND, NONE, rows, None),
                         lambda: weaves(GROUND, NONE, rows)):
                with self.assertRaises(BadRows, msg=rows) as caught:
                    call()
                self.assertEqual(caught.exception.index, index, rows)

    def test_weaves(self):
        rows = [["a", "b"], ["c", "d"]]
        wrong = [(thing, 0) for thing in any_objects() + ["acbd"] if not isinstance(thing, (list, tuple))]
        wrong += [(["a", "c", thing, "b"], 2) for thing in any_objects()]
        # too early, twice, one of no row, one too many; letters lack
        wrong += [(["b", "a", "c", "d"], 0), (["a", "d"], 1), (["a", "a"], 1), (["a", "b", "a"], 2), (["a", "b", "e"], 2),
                  (["a", "b", "c", "d", "d"], 4), (["a", "b", "c", "d", None], 4), ([], 0), (["a", "b", "c"], 3), (("c",), 1)]
        for weave, index in wrong:
            for call in (serial, ring):
                with self.assertRaises(BadWeave, msg=weave) as caught:
                    call(GROUND, NONE, rows, weave)
                self.assertEqual(caught.exception.index, index, weave)
        with self.assertRaises(BadWeave) as caught:
            serial(GROUND, NONE, [], ["a"])
        self.assertEqual(caught.exception.index, 0)


class Conventions(unittest.TestCase):
    def test_by_name_and_lists_for_tuples(self):
        permits = Permits(GROUND, [("shares", "a", "c"), ("shares", "b", "d")])
        rows, weave = [["a", "b"], ["c", "d"]], ["a", "c", "d", "b"]
        passed = copy.deepcopy((rows, weave))
        like = tuple(tuple(row) for row in rows)
        for function in (serial, ring):
            told = function(GROUND, permits, rows, weave)
            self.assertEqual(function(ground=GROUND, permits=permits, rows=like, weave=tuple(weave)), told)
            self.assertEqual(function(weave=weave, rows=rows, permits=permits, ground=GROUND), told)
        self.assertEqual(weaves(rows=like, ground=GROUND, permits=permits), weaves(GROUND, permits, rows))
        self.assertEqual((rows, weave), passed)


class TheLimits(unittest.TestCase):
    ground = Ground({**{letter: 0 for letter in "abcdefghi"}, "pair": 2}, ["pair"])

    def test_eight_letters(self):
        full = Permits.full(self.ground)
        for rows, every, alike in (([list("abcd"), list("efgh")], 70, 2), ([list("ab"), list("cd"), list("ef"), list("gh")], 2520, 24),
                                   ([[letter] for letter in "abcdefgh"], 40320, 40320), ([list("abcdefgh")], 1, 1),
                                   ([list("abc"), list("def"), list("gh")], 560, 6)):
            self.assertEqual(weaves(self.ground, full, rows), (every, alike))
            self.assertEqual(weaves(self.ground, Permits(self.ground), rows), (every, every))

    def test_rings_of_many_rows(self):
        # each row's second letter hangs on the first one of the next row
        rows = [list("ah"), list("bc"), list("de"), list("fg")]
        permits = Permits(self.ground, [("shares", "a", "b"), ("shares", "c", "d"), ("shares", "e", "f"), ("shares", "g", "h")])
        weave = list("abcdefgh")
        self.assertEqual(ring(self.ground, permits, rows, weave), (0, 1, 2, 3))
        self.assertIsNone(serial(self.ground, permits, rows, weave))
        self.assertEqual(serial(self.ground, permits, rows, list("ahbcdefg")), (0, 1, 2, 3))
        every = [[letter] for letter in "abcdefgh"]
        self.assertEqual(serial(self.ground, Permits.full(self.ground), every, list("hgfedcba")), (7, 6, 5, 4, 3, 2, 1, 0))


if __name__ == "__main__":
    unittest.main()
