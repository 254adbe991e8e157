"""Point 38: the examples that speak of breaking, weakest and holds."""

import unittest

from freeworldrules.grounds import Ground
from freeworldrules.needs import breaking, needs, never, weakest
from freeworldrules.permits import Permits
from freeworldrules.rules import holds
from model import all_permits

GROUND = Ground({"x": 0, "y": 0, "plus": 2}, ["plus"], ["plus"])
PLAIN = Ground({"x": 0, "y": 0, "plus": 2}, ["plus"])

X, Y, V = ("use", "x", ()), ("use", "y", ()), ("name", "v")

SWAP = (("use", "plus", (X, Y)), ("use", "plus", (Y, X)))
TWICE = (("use", "plus", (X, X)), ("bind", "v", X, ("use", "plus", (V, V))))
AWAY = (("then", X, Y), Y)
AGAIN = (("then", X, ("then", Y, X)), ("then", Y, X))


def rows_of(told):
    return [permits.rows() for permits in told]


class Exchange(unittest.TestCase):
    def test_what_breaks_it(self):
        self.assertEqual(rows_of(breaking(GROUND, *SWAP)), [
            # both fail; one fails while the other one writes or stays
            [("fails", "x"), ("fails", "y")],
            [("fails", "x"), ("stays", "y")],
            [("fails", "x"), ("writes", "y")],
            [("fails", "y"), ("stays", "x")],
            [("fails", "y"), ("writes", "x")],
            # one shows the other one something, they share
            [("writes", "x"), ("shows", "x", "y")],
            [("writes", "y"), ("shows", "y", "x")],
            [("writes", "x"), ("writes", "y"), ("shares", "x", "y")]])

    def test_all_else_is_let(self):
        for row in (("fails", "plus"), ("stays", "plus"), ("shows", "x", "x"), ("shows", "y", "y")):
            self.assertNotIn(row, needs(GROUND, *SWAP))
            for permits in weakest(GROUND, *SWAP):
                if row[0] != "shows" or ("writes", row[1]) in permits:
                    self.assertIn(row, permits)
        self.assertTrue(holds(GROUND, Permits(GROUND, [("fails", "plus"), ("stays", "plus"), ("stays", "x"), ("stays", "y"),
                                                       ("shows", "x", "x"), ("shows", "y", "y")]), *SWAP))

    def test_weakest(self):
        self.assertEqual(rows_of(weakest(GROUND, *SWAP)), [
            [("fails", "x"), ("fails", "plus"), ("stays", "x"), ("stays", "plus"), ("writes", "x"), ("shows", "x", "x")],
            [("fails", "y"), ("fails", "plus"), ("stays", "y"), ("stays", "plus"), ("writes", "y"), ("shows", "y", "y")],
            [("fails", "plus"), ("stays", "x"), ("stays", "y"), ("stays", "plus"), ("writes", "x"), ("writes", "y"),
             ("shows", "x", "x"), ("shows", "y", "y")]])

    def test_without_commuting(self):
        self.assertTrue(never(PLAIN, *SWAP))
        self.assertEqual(breaking(PLAIN, *SWAP), [Permits(PLAIN)])
        self.assertEqual(weakest(PLAIN, *SWAP), [])


class OnceForTwice(unittest.TestCase):
    def test_what_x_shows_itself(self):
        for ground in (GROUND, PLAIN):
            self.assertEqual(rows_of(breaking(ground, *TWICE)), [[("writes", "x"), ("shows", "x", "x")]])
            self.assertEqual(weakest(ground, *TWICE), [Permits.full(ground).without(("shows", "x", "x"))])


class LeftOut(unittest.TestCase):
    def test_neither_fail_nor_stay_nor_write(self):
        self.assertEqual(rows_of(breaking(GROUND, *AWAY)), [[("fails", "x")], [("stays", "x")], [("writes", "x")]])
        full = Permits.full(GROUND)
        greatest = full.without(("fails", "x")).without(("stays", "x")).without(("writes", "x"))
        self.assertEqual(weakest(GROUND, *AWAY), [greatest])
        self.assertEqual(needs(GROUND, *AWAY), [("fails", "x"), ("stays", "x"), ("writes", "x")])


class AskedAgain(unittest.TestCase):
    def test_x_can_have_set_something_that_it_now_leaves(self):
        told = rows_of(breaking(GROUND, *AGAIN))
        self.assertIn([("writes", "x"), ("writes", "y"), ("shows", "y", "x")], told)
        self.assertTrue(holds(GROUND, Permits(GROUND, [("writes", "x"), ("writes", "y")]), *AGAIN))
        self.assertTrue(holds(GROUND, Permits(GROUND, [("shows", "y", "x")]), *AGAIN))
        self.assertFalse(holds(GROUND, Permits(GROUND, [("writes", "x"), ("shows", "y", "x")]), *AGAIN))


class HoldsExactly(unittest.TestCase):
    def test_by_all_permits_of_two_letters(self):
        ground = Ground({"x": 0, "y": 0})
        for permits in all_permits(ground):
            told = holds(ground, permits, *AWAY)
            self.assertIs(told, not any(row in permits for row in (("fails", "x"), ("stays", "x"), ("writes", "x"))))


if __name__ == "__main__":
    unittest.main()
