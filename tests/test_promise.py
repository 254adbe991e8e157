"""Points 12 and 13: what holds in the free world holds in all programs within permits, and nothing else does."""

import random
import unittest

from freeworldrules.grounds import Ground
from freeworldrules.permits import Permits
from freeworldrules.rules import holds
from freeworldrules.terms import parts, put_at
from model import random_term
from programs import Program

GROUNDS = [
    Ground({"x": 0, "y": 0, "plus": 2}, ["plus"], ["plus"],
           [("plus", ("a", "b"), ("value", "true")), ("plus", ("a", "a"), ("fail", "e"))]),
    Ground({"y": 0, "f": 1, "k": 0}, ["k"]),
    Ground({"x": 0, "y": 0, "z": 0}),
    Ground({"g": 2, "x": 0, "h": 1}, ["h"], [], [("h", ("a",), ("value", "b"))]),
]

X, Y, Z = ("use", "x", ()), ("use", "y", ()), ("use", "z", ())
A = ("value", "a")


def exchanged(chance, term):
    """The term in which parts stand in another order, here and there."""
    if term[0] in ("value", "name", "fail"):
        return term
    if term[0] == "bind":
        return term[:2] + (exchanged(chance, term[2]), exchanged(chance, term[3]))
    terms = [exchanged(chance, part) for part in (term[2] if term[0] == "use" else term[1:])]
    if chance.random() < 0.5:
        terms.reverse()
    return term[:2] + (tuple(terms),) if term[0] == "use" else term[:1] + tuple(terms)


class ThePromise(unittest.TestCase):
    def parted(self, chance, ground, permits, one, other, programs):
        """Tells whether some program of those that are drawn parts two terms."""
        for _ in range(programs):
            program = Program(chance, ground, permits)
            state = [chance.randrange(3) for _ in program.things]
            if program.end(one, state) != program.end(other, state):
                return True
        return False

    def test_what_holds_is_parted_by_no_program_and_what_does_not_by_some(self):
        chance = random.Random(13)
        told = {True: 0, False: 0}
        for _ in range(250):
            ground = chance.choice(GROUNDS)
            one = random_term(chance, ground, chance.randrange(3, 12))
            other = exchanged(chance, one)
            if one != other:
                permits = Permits(ground, [row for row in Permits.full(ground) if chance.random() < 0.3])
                good = holds(ground, permits, one, other)
                self.assertIs(self.parted(chance, ground, permits, one, other, 30 if good else 2000), not good,
                              (ground.letters(), permits.rows(), one, other))
                told[good] += 1
        self.assertGreater(min(told.values()), 20)

    def test_each_permission_that_breaks_an_exchange(self):
        ground = Ground({"x": 0, "y": 0, "pair": 2}, ["pair"])
        one = ("use", "pair", (X, Y))
        other = ("bind", "v", Y, ("use", "pair", (X, ("name", "v"))))
        chance = random.Random(131)
        for rows, good in (
                ([("writes", "x"), ("writes", "y"), ("shows", "x", "x"), ("shows", "y", "y"), ("fails", "pair")], True),
                ([("stays", "x"), ("stays", "y"), ("stays", "pair")], True),
                ([("fails", "x")], True), ([("fails", "x"), ("fails", "y")], False),
                ([("fails", "x"), ("stays", "y")], False), ([("fails", "x"), ("writes", "y")], False),
                ([("shows", "x", "y")], False), ([("shows", "y", "x")], False), ([("shares", "x", "y")], False)):
            permits = Permits(ground, rows)
            self.assertIs(holds(ground, permits, one, other), good, rows)
            self.assertIs(self.parted(chance, ground, permits, one, other, 1500), not good, rows)

    def test_three_letters_of_which_two_share_what_the_third_reads(self):
        # who wrote last is seen by z, although all that each of them wrote is the same
        ground = Ground({"x": 0, "y": 0, "z": 0})
        chance = random.Random(132)
        one, other = ("then", X, ("then", Y, Z)), ("then", Y, ("then", X, Z))
        shows = [("shows", "x", "z"), ("shows", "y", "z")]
        for rows, good in ((shows, True), (shows + [("shares", "x", "y")], False)):
            permits = Permits(ground, rows)
            self.assertIs(holds(ground, permits, one, other), good)
            self.assertIs(self.parted(chance, ground, permits, one, other, 2000), not good)

    def test_a_failing_letter_sets_things_too(self):
        ground = Ground({"x": 0, "y": 0})
        permits = Permits(ground, [("fails", "x"), ("writes", "x")])
        one, other = ("then", ("try", X, A), A), ("then", ("try", ("then", X, ("fail", "e")), A), A)
        self.assertTrue(holds(ground, permits, one, other))
        self.assertFalse(self.parted(random.Random(133), ground, permits, one, other, 300))
        self.assertFalse(holds(ground, permits, one, A))
        self.assertTrue(self.parted(random.Random(134), ground, permits, one, A, 300))

    def test_within_any_other_term(self):
        chance = random.Random(135)
        ground = GROUNDS[2]
        permits = Permits(ground, [("writes", "x"), ("writes", "y"), ("fails", "x"), ("shows", "z", "z")])
        rules = [(("then", X, X), X), (("not", ("not", ("not", Y))), ("not", Y)), (("last", Y, A), Y),
                 (("if", Y, ("then", Z, X), X), ("then", Y, ("then", ("if", Y, Z, A), X)))]
        for one, other in rules:
            self.assertTrue(holds(ground, permits, one, other))
            for _ in range(15):
                around = random_term(chance, ground, chance.randrange(1, 9))
                for path in parts(ground, around)[:4]:
                    terms = [put_at(ground, around, path, term) for term in (one, other)]
                    self.assertTrue(holds(ground, permits, *terms))


if __name__ == "__main__":
    unittest.main()
