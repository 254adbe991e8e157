"""Point 45: schedules, rounds and chains."""

import copy
import itertools
import random
import unittest

from any_objects import any_objects
from freeworldrules.errors import BadNumber, BadRow, UnlikeGrounds
from freeworldrules.grounds import Ground
from freeworldrules.orders import hang, row_term
from freeworldrules.permits import Permits
from freeworldrules.rounds import chain, is_schedule, rounds
from freeworldrules.rules import holds

GROUND = Ground({"x": 0, "f": 1, "pair": 2, "y": 0, "z": 0, "k": 0, "w": 0}, ["pair", "k"])

NONE, FULL = Permits(GROUND), Permits.full(GROUND)

LETTERS = ["x", "y", "z", "w"]


def some_permits(chance, ground=GROUND, share=0.2):
    return Permits(ground, [row for row in Permits.full(ground) if chance.random() < share])


def do_hang(permits, one, other):
    pairs = hang(permits.ground, permits)
    return (one, other) in pairs or (other, one) in pairs


def all_schedules(permits, row, most):
    """All lists of rounds, letter by letter, that are schedules."""
    if not row:
        return [[]]
    found = []
    for many in range(1, min(most, len(row)) + 1):
        for one in itertools.combinations([letter for letter in permits.ground if letter in row], many):
            left = [letter for letter in row if letter not in one]
            if all(not do_hang(permits, letter, other) for letter, other in itertools.combinations(one, 2)) and all(
                    not do_hang(permits, ahead, letter) for letter in one for ahead in row[:row.index(letter)]):
                found += [[one] + behind for behind in all_schedules(permits, left, most)]
    return found


def places(schedule):
    return [[list(GROUND).index(letter) for letter in one] for one in schedule]


class Rounds(unittest.TestCase):
    def test_all_at_once(self):
        self.assertEqual(rounds(GROUND, NONE, ["z", "x", "y"]), [("x", "y", "z")])
        self.assertEqual(rounds(GROUND, NONE, ["z", "x", "y"], 2), [("x",), ("y", "z")])
        self.assertEqual(rounds(GROUND, NONE, ["z", "x", "y", "w"], 3), [("x",), ("y", "z", "w")])

    def test_one_after_the_other(self):
        self.assertEqual(rounds(GROUND, FULL, ["z", "x", "y"]), [("z",), ("x",), ("y",)])
        self.assertEqual(rounds(GROUND, NONE, ["z", "x", "y"], 1), [("x",), ("y",), ("z",)])

    def test_what_hangs_in_the_order_of_the_row(self):
        permits = Permits(GROUND, [("shows", "x", "y")])
        self.assertEqual(rounds(GROUND, permits, ["z", "x", "y"]), [("x",), ("y", "z")])
        self.assertEqual(rounds(GROUND, permits, ["z", "y", "x"]), [("y",), ("x", "z")])

    def test_the_first_of_those_with_the_fewest(self):
        # x is ahead of w, the others can stand in either round, so that x stands alone
        permits = Permits(GROUND, [("shares", "x", "w")])
        self.assertEqual(rounds(GROUND, permits, ["x", "y", "z", "w"]), [("x",), ("y", "z", "w")])
        self.assertEqual(rounds(GROUND, permits, ["w", "x", "y", "z"]), [("y", "z", "w"), ("x",)])
        self.assertEqual(rounds(GROUND, permits, ["x", "y", "z", "w"], 2), [("x", "y"), ("z", "w")])

    def test_no_letters_and_one(self):
        for most in (1, 8, 10 ** 20):
            self.assertEqual(rounds(GROUND, FULL, [], most), [])
            self.assertEqual(rounds(GROUND, FULL, ["y"], most), [("y",)])

    def test_kinds(self):
        told = rounds(GROUND, NONE, ("x", "y"))
        self.assertEqual([type(told), type(told[0])], [list, tuple])
        told.clear()
        self.assertEqual(rounds(GROUND, NONE, ["x", "y"]), [("x", "y")])

    def test_by_all_schedules(self):
        chance = random.Random(45)
        for _ in range(150):
            permits = some_permits(chance, share=chance.choice((0.05, 0.15, 0.3)))
            row = chance.sample(LETTERS, chance.randrange(5))
            most = chance.randrange(1, 6)
            every = all_schedules(permits, row, most)
            fewest = min(len(schedule) for schedule in every)
            best = min((schedule for schedule in every if len(schedule) == fewest), key=places)
            self.assertEqual(rounds(GROUND, permits, row, most), best, (permits.rows(), row, most))
            for schedule in every:
                self.assertIs(is_schedule(GROUND, permits, row, schedule), True)

    def test_letters_of_a_round_in_any_order(self):
        """It holds: the terms end alike with the row's."""
        chance = random.Random(450)
        for _ in range(40):
            permits = some_permits(chance, share=0.12)
            row = chance.sample(LETTERS, 4)
            order = []
            for one in rounds(GROUND, permits, row, chance.randrange(1, 9)):
                order += chance.sample(one, len(one))
            self.assertTrue(holds(GROUND, permits, row_term(GROUND, row, "pair"), row_term(GROUND, order, "pair")))

    def test_as_many_rounds_as_the_chain_has_letters(self):
        chance = random.Random(451)
        ground = Ground({letter: 0 for letter in "abcdefgh"})
        for _ in range(60):
            permits = some_permits(chance, ground, chance.choice((0.01, 0.03, 0.06)))
            row = chance.sample("abcdefgh", chance.randrange(9))
            self.assertEqual(len(rounds(ground, permits, row)), len(chain(ground, permits, row)))
            self.assertEqual(rounds(ground, permits, row), rounds(ground, permits, row, 8))


class IsSchedule(unittest.TestCase):
    permits = Permits(GROUND, [("shows", "x", "y")])
    row = ["z", "x", "y"]

    def test_schedules(self):
        for thing in ([("x",), ("y", "z")], [("x", "z"), ("y",)], (["x"], ["z"], ["y"]), [["z"], ("x",), ["y"]]):
            self.assertIs(is_schedule(GROUND, self.permits, self.row, thing), True, thing)
        self.assertIs(is_schedule(GROUND, self.permits, [], []), True)
        self.assertIs(is_schedule(GROUND, self.permits, [], ()), True)

    def test_no_schedules(self):
        for thing in ([("y",), ("x", "z")], [("x", "y"), ("z",)], [("x", "y", "z")],
                      # a letter twice, left out, another one, an empty round, letters in another order
                      [("x",), ("y", "z"), ("z",)], [("x", "x"), ("y", "z")], [("x",), ("y",)], [("x",), ("y", "z", "w")],
                      [("x",), ("y", "w")], [("x",), (), ("y", "z")], [("x",), ("y", "z"), ()], [("x",), ("z", "y")],
                      [("z", "x"), ("y",)], [(), ("x",), ("y", "z")], ["x", "y", "z"], ["x", ("y", "z")], ("x", "y", "z"),
                      [["x"], "yz"], [(("x",),), ("y", "z")], [("x",), ("y", None)], [("x", "y"), ("z", "z")]):
            self.assertIs(is_schedule(GROUND, self.permits, self.row, thing), False, thing)
        for thing in [[()], [[]], [("x",)], [None]]:
            self.assertIs(is_schedule(GROUND, self.permits, [], thing), False, thing)

    def test_any_objects(self):
        for thing in any_objects():
            self.assertIs(is_schedule(GROUND, self.permits, self.row, thing), False)
            self.assertIs(is_schedule(GROUND, self.permits, self.row, [("x",), ("y", thing)]), False)
            self.assertIs(is_schedule(GROUND, self.permits, self.row, [("x",), ("y", "z"), thing]), False)
            self.assertIs(is_schedule(GROUND, self.permits, ["x"], [thing]), thing in (["x"], ("x",)))

    def test_by_all_lists_of_rounds(self):
        chance = random.Random(452)
        for _ in range(40):
            permits = some_permits(chance)
            row = chance.sample(LETTERS, 3)
            good = all_schedules(permits, row, 8)
            some = [one for many in (1, 2, 3) for one in itertools.permutations(row, many)]
            for many in (1, 2, 3):
                for thing in itertools.product(some, repeat=many):
                    self.assertIs(is_schedule(GROUND, permits, row, list(thing)), list(thing) in good)


class Chain(unittest.TestCase):
    def test_the_longest(self):
        permits = Permits(GROUND, [("shows", "x", "y"), ("shares", "y", "z"), ("shows", "w", "x")])
        self.assertEqual(chain(GROUND, permits, ["w", "x", "y", "z"]), ["w", "x", "y", "z"])
        self.assertEqual(chain(GROUND, permits, ["z", "x", "y", "w"]), ["z", "y"])
        self.assertEqual(chain(GROUND, permits, ["x", "z", "w", "y"]), ["x", "w"])

    def test_the_first_by_places_in_the_row(self):
        self.assertEqual(chain(GROUND, NONE, ["w", "x", "y"]), ["w"])
        permits = Permits(GROUND, [("shares", "x", "y"), ("shares", "w", "z"), ("shares", "w", "y")])
        self.assertEqual(chain(GROUND, permits, ["w", "x", "z", "y"]), ["w", "z"])
        self.assertEqual(chain(GROUND, permits, ["x", "w", "z", "y"]), ["x", "y"])

    def test_no_letters(self):
        self.assertEqual(chain(GROUND, FULL, []), [])
        self.assertEqual(chain(GROUND, FULL, ("y", "x")), ["y", "x"])

    def test_by_all_lists(self):
        chance = random.Random(453)
        ground = Ground({letter: 0 for letter in "abcdef"})
        for _ in range(120):
            permits = some_permits(chance, ground, chance.choice((0.03, 0.08, 0.15)))
            row = chance.sample("abcdef", chance.randrange(1, 7))
            every = [some for many in range(1, len(row) + 1) for some in itertools.combinations(range(len(row)), many)
                     if all(do_hang(permits, row[one], row[other]) for one, other in zip(some, some[1:]))]
            best = min(every, key=lambda some: (-len(some), some))
            self.assertEqual(chain(ground, permits, row), [row[place] for place in best])


class WrongThings(unittest.TestCase):
    def test_permits_of_another_ground(self):
        other = Permits(Ground({"x": 0}))
        for call in (lambda: rounds(GROUND, other, None, None), lambda: chain(GROUND, other, None),
                     lambda: is_schedule(GROUND, other, None, None)):
            with self.assertRaises(UnlikeGrounds):
                call()

    def test_rows(self):
        wrong = [(["x", thing, None], 1) for thing in any_objects() if thing != "y"]
        wrong += [(["x", "f"], 1), (["y", "k"], 1), (["y", "pair"], 1), (["y", "x", "y"], 2), (["q"], 0)]
        wrong += [(thing, 0) for thing in any_objects() + ["xy"] if not isinstance(thing, (list, tuple))]
        for row, index in wrong:
            for call in (lambda: rounds(GROUND, NONE, row, None), lambda: chain(GROUND, NONE, row),
                         lambda: is_schedule(GROUND, NONE, row, [])):
                with self.assertRaises(BadRow, msg=row) as caught:
                    call()
                self.assertEqual(caught.exception.index, index)

    def test_numbers(self):
        for most in any_objects() + [-5, "1", [1], 0]:
            if most not in (1, 2, 3, 10 ** 20) or most is True:
                with self.assertRaises(BadNumber) as caught:
                    rounds(GROUND, NONE, ["x"], most)
                self.assertIs(caught.exception.number, most)


class Conventions(unittest.TestCase):
    def test_by_name_and_lists_for_tuples(self):
        permits = Permits(GROUND, [("shows", "x", "y")])
        row = ["z", "x", "y"]
        passed = copy.deepcopy(row)
        told = rounds(GROUND, permits, row, 2)
        self.assertEqual(rounds(ground=GROUND, permits=permits, row=row, most=2), told)
        self.assertEqual(rounds(most=2, row=tuple(row), permits=permits, ground=GROUND), told)
        self.assertEqual(chain(row=tuple(row), ground=GROUND, permits=permits), chain(GROUND, permits, row))
        self.assertIs(is_schedule(ground=GROUND, permits=permits, row=row, thing=told), True)
        thing = [["x"], ["y", "z"]]
        self.assertIs(is_schedule(thing=thing, row=tuple(row), permits=permits, ground=GROUND), True)
        self.assertEqual((row, thing), (passed, [["x"], ["y", "z"]]))


class TheLimits(unittest.TestCase):
    def test_rows_of_eight_letters(self):
        ground = Ground({**{letter: 0 for letter in "abcdefghi"}, "pair": 2}, ["pair"])
        row = list("hgfedcba")
        self.assertEqual(rounds(ground, Permits(ground), row), [tuple("abcdefgh")])
        self.assertEqual(rounds(ground, Permits(ground), row, 3), [("a", "b"), ("c", "d", "e"), ("f", "g", "h")])
        self.assertEqual(rounds(ground, Permits.full(ground), row), [(letter,) for letter in row])
        self.assertEqual(chain(ground, Permits.full(ground), row), row)
        permits = Permits(ground, [("shows", "a", "b"), ("shows", "c", "d"), ("shares", "e", "f")])
        self.assertEqual(rounds(ground, permits, row, 4), [("b", "d", "f", "g"), ("a", "c", "e", "h")])


if __name__ == "__main__":
    unittest.main()
