"""Point 33: rows whose values are dropped."""

import itertools
import random
import unittest

from any_objects import any_objects
from freeworldrules.dropped import can_go, dropped, shortest
from freeworldrules.errors import BadRow, UnlikeGrounds
from freeworldrules.grounds import Ground
from freeworldrules.permits import Permits
from freeworldrules.rules import holds
from freeworldrules.terms import checked
from model import model_holds

GROUND = Ground({"y": 0, "x": 0, "f": 1, "k": 0, "z": 0}, ["k"])
NO = Permits(GROUND)
FULL = Permits.full(GROUND)
TRUE = ("value", "true")


def use(letter):
    return ("use", letter, ())


def permits(*rows):
    return Permits(GROUND, rows)


class TheTerm(unittest.TestCase):
    def test_one_after_another_by_then(self):
        self.assertEqual(dropped(GROUND, ["x", "y"]), ("then", use("x"), ("then", use("y"), TRUE)))
        self.assertEqual(dropped(GROUND, ("x",)), ("then", use("x"), TRUE))
        self.assertEqual(dropped(GROUND, []), TRUE)
        self.assertEqual(dropped(GROUND, ()), TRUE)

    def test_the_same_letter_again(self):
        self.assertEqual(dropped(GROUND, ["x", "x", "y", "x"]),
                         ("then", use("x"), ("then", use("x"), ("then", use("y"), ("then", use("x"), TRUE)))))

    def test_a_term(self):
        for row in ([], ["x"], list("xyzxyzxy")):
            self.assertEqual(checked(GROUND, dropped(GROUND, row)), dropped(GROUND, row))


class CanGo(unittest.TestCase):
    def test_each_alone(self):
        self.assertEqual(can_go(GROUND, NO, ["x", "y"]), [0, 1])
        self.assertEqual(can_go(GROUND, FULL, ["x", "y"]), [])
        self.assertEqual(can_go(GROUND, permits(("writes", "x")), ["x", "y"]), [1])
        self.assertEqual(can_go(GROUND, permits(("fails", "x")), ["y", "x"]), [0])
        self.assertEqual(can_go(GROUND, permits(("stays", "x")), ("y", "x")), [0])
        self.assertEqual(can_go(GROUND, FULL, []), [])

    def test_the_same_letter_again(self):
        # one of both has to stay, but each alone can go
        self.assertEqual(can_go(GROUND, permits(("writes", "x")), ["x", "x"]), [0, 1])
        self.assertEqual(can_go(GROUND, permits(("shows", "x", "x")), ["x", "x"]), [])
        self.assertEqual(can_go(GROUND, permits(("shows", "y", "x")), ["x", "y", "x"]), [0, 2])
        self.assertEqual(can_go(GROUND, permits(("shows", "y", "x"), ("writes", "x")), ["x", "y", "x"]), [])
        self.assertEqual(can_go(GROUND, permits(("shows", "y", "x"), ("writes", "x")), ["x", "y", "y", "x"]), [1, 2])
        self.assertEqual(can_go(GROUND, permits(("writes", "x"), ("writes", "y")), ["x", "y", "x"]), [0, 2])
        self.assertEqual(can_go(GROUND, permits(("shares", "x", "y")), ["x", "y", "x"]), [0])


class Shortest(unittest.TestCase):
    def test_the_fewest_places(self):
        self.assertEqual(shortest(GROUND, NO, ["x", "y"]), [])
        self.assertEqual(shortest(GROUND, FULL, ["x", "y"]), ["x", "y"])
        self.assertEqual(shortest(GROUND, permits(("writes", "x")), ["y", "x", "y", "x"]), ["x"])
        self.assertEqual(shortest(GROUND, permits(("writes", "x"), ("writes", "y")), ["y", "x", "y", "x"]), ["y", "x"])
        self.assertEqual(shortest(GROUND, FULL, []), [])

    def test_the_first_by_places(self):
        # the places 0, 1 and 1, 2 are left alike
        within = permits(("writes", "x"), ("writes", "y"))
        self.assertEqual(shortest(GROUND, within, ["x", "y", "x"]), ["x", "y"])
        self.assertEqual(shortest(GROUND, within, ["y", "x", "y"]), ["y", "x"])
        self.assertEqual(shortest(GROUND, permits(("shares", "x", "y")), ["x", "y", "x"]), ["y", "x"])

    def test_x_then_x_is_x_exactly_if_x_does_not_show_itself_what_it_sets(self):
        ground = Ground({"x": 0})
        full = Permits.full(ground).rows()
        for many in range(len(full) + 1):
            for rows in itertools.combinations(full, many):
                within = Permits(ground, rows)
                alike = holds(ground, within, dropped(ground, ["x", "x"]), dropped(ground, ["x"]))
                self.assertIs(alike, ("shows", "x", "x") not in within)
                self.assertEqual(shortest(ground, within, ["x", "x"]) == ["x", "x"], not alike)

    def test_by_all_rows(self):
        chance = random.Random(33)
        for _ in range(40):
            within = permits(*[row for row in FULL if chance.random() < 0.12])
            row = [chance.choice("xyz") for _ in range(chance.randrange(6))]
            alike = [places for many in range(len(row) + 1) for places in itertools.combinations(range(len(row)), many)
                     if model_holds(GROUND, within, dropped(GROUND, row), dropped(GROUND, [row[p] for p in places]))]
            self.assertEqual(shortest(GROUND, within, row), [row[place] for place in alike[0]])
            gone = [place for place in range(len(row)) if tuple(p for p in range(len(row)) if p != place) in alike]
            self.assertEqual(can_go(GROUND, within, row), gone)

    def test_eight_letters(self):
        ground = Ground({letter: 0 for letter in "ihgfedcba"})
        full = Permits.full(ground)
        row = list("abcdefgh")
        self.assertEqual(shortest(ground, full, row), row)
        self.assertEqual(can_go(ground, full, row), [])
        within = Permits(ground, [("writes", letter) for letter in row] + [("fails", "a")])
        self.assertEqual(shortest(ground, within, row), row)
        self.assertEqual(shortest(ground, within, list("abababab")), ["a", "b"])
        self.assertEqual(can_go(ground, within, list("abababab")), [1, 2, 3, 4, 5, 6, 7])
        self.assertEqual(shortest(ground, Permits(ground), row), [])

    def test_what_is_told_is_new_and_what_is_passed_stays(self):
        row = ["x", "y"]
        told = shortest(GROUND, FULL, row)
        told.clear()
        self.assertEqual(row, ["x", "y"])
        self.assertEqual((type(told), type(can_go(GROUND, NO, ("x",)))), (list, list))
        self.assertEqual(shortest(GROUND, FULL, ("x", "y")), ["x", "y"])


class Errors(unittest.TestCase):
    def bad_index(self, row):
        told = []
        for call in (lambda: dropped(GROUND, row), lambda: can_go(GROUND, FULL, row), lambda: shortest(GROUND, FULL, row)):
            with self.assertRaises(BadRow) as caught:
                call()
            told.append(caught.exception.index)
        self.assertEqual(len(set(told)), 1)
        return told[0]

    def test_bad_rows(self):
        for thing in any_objects() + ["xx"]:
            if not isinstance(thing, (list, tuple)):
                self.assertEqual(self.bad_index(thing), 0)
            if thing not in ("x", "y"):
                self.assertEqual(self.bad_index(["x", "x", thing, None]), 2)
        for letter in ("f", "k", "a", "X", ["x"]):
            self.assertEqual(self.bad_index((letter, "x", 3)), 0)

    def test_unlike_grounds_ahead_of_rows(self):
        other = Permits(Ground({"x": 0, "y": 0}))
        for call in (can_go, shortest):
            with self.assertRaises(UnlikeGrounds):
                call(GROUND, other, 3)


if __name__ == "__main__":
    unittest.main()
