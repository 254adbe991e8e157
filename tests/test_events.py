"""Points 39 and 40: what lets events happen."""

import copy
import itertools
import random
import unittest

from any_objects import NAMES, NO_NAMES, any_objects
from freeworldrules.errors import BadEvent, BadTerm, UnlikeGrounds
from freeworldrules.events import barring, letting, lets, way_to
from freeworldrules.findings import counts, failures, may_stay, unreached
from freeworldrules.grounds import Ground
from freeworldrules.permits import Permits
from freeworldrules.rules import ways
from freeworldrules.runs import evaluations, run
from freeworldrules.terms import checked, parts
from model import Model, all_permits, model_ways, random_term

GROUND = Ground({"x": 0, "y": 0, "plus": 2, "k": 1}, ["plus", "k"], ["plus"],
                [("k", ("a",), ("fail", "bad")), ("k", ("b",), ("value", "false"))])

X, Y = ("use", "x", ()), ("use", "y", ())
A, B = ("value", "a"), ("value", "b")
KA, KB = ("use", "k", (A,)), ("use", "k", (B,))

FULL, NONE = Permits.full(GROUND), Permits(GROUND)

# what all permits of this ground have
ALWAYS = ("fails", "k")


def rows_of(told):
    return [[row for row in permits.rows() if row != ALWAYS] for permits in told]


def key(permits):
    every = Permits.full(permits.ground).rows()
    return len(permits), [every.index(row) for row in permits.rows()]


def least_of(bits):
    def cut(one):
        return cut(one[:-1]) if one and one[-1] == 0 else one
    return min([cut(one) for one in bits], key=lambda one: (sum(one), len(one), one), default=None)


def is_met(ground, permits, term, event, bits):
    """By the plain telling of the free world."""
    model = Model(ground, permits, bits)
    end = model.run(term)
    if event[0] == "often":
        return len([met for met in model.history if met[0] == event[1]]) >= event[2]
    if event[0] == "stays":
        return end[0] == "stays"
    return end[0] == "fails" and end[1][:2] == event


def some_events(ground, term):
    found = [("stays",), ("fail", "e"), ("fail", "bad")] + [("failed", letter) for letter in ground]
    return found + [("often", letter, k) for letter in ground for k in (1, 2, 3, 4)]


class EachKind(unittest.TestCase):
    def test_failures_of_letters(self):
        term = ("then", X, ("try", Y, A))
        self.assertIs(lets(GROUND, FULL, term, ("failed", "x")), True)
        self.assertIs(lets(GROUND, FULL, term, ("failed", "y")), False)
        self.assertIs(lets(GROUND, NONE, term, ("failed", "x")), False)
        self.assertIs(lets(GROUND, FULL, term, ("failed", "plus")), False)
        self.assertIs(lets(GROUND, FULL, ("use", "k", (X,)), ("failed", "k")), True)
        self.assertEqual(way_to(GROUND, FULL, term, ("failed", "x")), (0, 1))
        self.assertIsNone(way_to(GROUND, FULL, term, ("failed", "y")))

    def test_failures_that_are_told(self):
        self.assertIs(lets(GROUND, NONE, ("if", X, A, ("fail", "e")), ("fail", "e")), True)
        self.assertEqual(way_to(GROUND, NONE, ("if", X, A, ("fail", "e")), ("fail", "e")), (1,))
        self.assertIs(lets(GROUND, NONE, ("if", X, A, ("fail", "e")), ("fail", "f")), False)
        # a fact's failure is no failure of the letter, and the other way round
        self.assertIs(lets(GROUND, FULL, KA, ("fail", "bad")), True)
        self.assertIs(lets(GROUND, FULL, KA, ("failed", "k")), False)
        self.assertIs(lets(GROUND, FULL, ("use", "k", (X,)), ("fail", "bad")), False)
        self.assertIs(lets(GROUND, FULL, ("try", ("fail", "e"), A), ("fail", "e")), False)
        for name in NAMES:
            self.assertIs(lets(GROUND, NONE, ("fail", name), ("fail", name)), True)

    def test_a_failure_called_like_a_letter(self):
        self.assertIs(lets(GROUND, FULL, X, ("fail", "x")), False)
        self.assertIs(lets(GROUND, FULL, ("fail", "x"), ("failed", "x")), False)

    def test_stays(self):
        self.assertIs(lets(GROUND, FULL, ("try", X, A), ("stays",)), True)
        self.assertEqual(way_to(GROUND, FULL, ("try", X, A), ("stays",)), (1,))
        self.assertIs(lets(GROUND, NONE, X, ("stays",)), False)
        self.assertIsNone(way_to(GROUND, NONE, X, ("stays",)))

    def test_reached(self):
        term = ("if", X, ("try", Y, A), ("if", ("value", "true"), A, B))
        for path in parts(GROUND, term):
            told = path != (2, 2)
            self.assertIs(lets(GROUND, FULL, term, ("reached", path)), told, path)
        self.assertIs(lets(GROUND, NONE, term, ("reached", (1, 1))), False)
        self.assertEqual(way_to(GROUND, FULL, term, ("reached", ())), ())
        self.assertEqual(way_to(GROUND, FULL, term, ("reached", (2, 1))), (0, 0, 1))
        self.assertEqual(way_to(GROUND, FULL, term, ("reached", (1, 1))), (0, 0, 0, 0, 1))
        self.assertIsNone(way_to(GROUND, FULL, term, ("reached", (2, 2))))
        # a part that stays, or fails, is reached
        self.assertIs(lets(GROUND, NONE, ("fail", "e"), ("reached", ())), True)

    def test_often(self):
        term = X
        for _ in range(8):
            term = ("then", X, term)
        for k in range(1, 10):
            self.assertIs(lets(GROUND, NONE, term, ("often", "x", k)), True)
            self.assertEqual(way_to(GROUND, FULL, term, ("often", "x", k)), ())
            self.assertIs(lets(GROUND, FULL, term, ("often", "y", k)), False)
        self.assertIs(lets(GROUND, NONE, term[2], ("often", "x", 9)), False)
        self.assertIs(lets(GROUND, NONE, term[2], ("often", "x", 8)), True)

    def test_how_often_is_counted(self):
        # one that stays or fails counts, one that a fact tells does not
        self.assertIs(lets(GROUND, FULL, ("then", X, X), ("often", "x", 2)), True)
        self.assertIs(lets(GROUND, NONE, ("then", KA, ("use", "k", (X,))), ("often", "k", 1)), False)
        self.assertIs(lets(GROUND, NONE, ("then", KB, ("use", "k", (X,))), ("often", "k", 1)), True)
        self.assertIs(lets(GROUND, NONE, ("then", KB, ("use", "k", (X,))), ("often", "k", 2)), False)
        stays = Permits(GROUND, [("stays", "x")])
        self.assertIs(lets(GROUND, stays, X, ("often", "x", 1)), True)
        # x stays, so y comes at most once
        self.assertEqual(way_to(GROUND, stays, ("if", Y, A, ("then", X, Y)), ("often", "x", 1)), (1,))

    def test_the_least_bits(self):
        # two questions of x answered by 1, or one of y
        term = ("if", X, ("if", Y, A, ("fail", "e")), ("if", ("not", X), ("fail", "e"), A))
        told = [bits for bits, end in ways(GROUND, NONE, term) if end[0] == "fails"]
        self.assertEqual(told, [(0, 1), (1,)])
        self.assertEqual(way_to(GROUND, NONE, term, ("fail", "e")), (1,))
        self.assertEqual(way_to(GROUND, NONE, ("if", X, A, ("if", Y, A, ("fail", "e"))), ("fail", "e")), (1, 1))


class HeldToTheWays(unittest.TestCase):
    def test_by_chance(self):
        chance = random.Random(39)
        for _ in range(150):
            term = checked(GROUND, random_term(chance, GROUND, chance.randrange(2, 9)))
            permits = Permits(GROUND, chance.sample(FULL.rows(), chance.randrange(8)))
            every = [bits for bits, _ in model_ways(GROUND, permits, [term])]
            for event in chance.sample(some_events(GROUND, term), 6):
                met = [bits for bits in every if is_met(GROUND, permits, term, event, bits)]
                self.assertIs(lets(GROUND, permits, term, event), met != [], (term, event))
                self.assertEqual(way_to(GROUND, permits, term, event), least_of(met), (term, event))

    def test_with_the_findings(self):
        chance = random.Random(390)
        for _ in range(60):
            term = checked(GROUND, random_term(chance, GROUND, chance.randrange(2, 9)))
            permits = Permits(GROUND, chance.sample(FULL.rows(), chance.randrange(8)))
            self.assertEqual([path for path in parts(GROUND, term) if not lets(GROUND, permits, term, ("reached", path))],
                             unreached(GROUND, permits, term))
            self.assertIs(lets(GROUND, permits, term, ("stays",)), may_stay(GROUND, permits, term))
            failed = [("failed", letter) for letter in GROUND if lets(GROUND, permits, term, ("failed", letter))]
            self.assertEqual(failed, [one for one in failures(GROUND, permits, term) if one[0] == "failed"])
            for letter, (_, most) in counts(GROUND, permits, term).items():
                for k in range(1, 10):
                    self.assertIs(lets(GROUND, permits, term, ("often", letter, k)), k <= most)

    def test_the_way_meets_it(self):
        term = ("then", ("try", X, A), ("if", Y, X, ("then", Y, X)))
        for k in (1, 2, 3):
            bits = way_to(GROUND, FULL, term, ("often", "x", k))
            if bits is not None:
                met = [row for row in evaluations(GROUND, FULL, term, bits) if row[0] == "x"]
                self.assertGreaterEqual(len(met), k)
        bits = way_to(GROUND, FULL, term, ("failed", "y"))
        self.assertEqual(run(GROUND, FULL, term, bits)[1], ("failed", "y", 1))
        self.assertEqual(bits[-1], 1)


class WhatLetsIt(unittest.TestCase):
    def test_the_least_permits(self):
        self.assertEqual(rows_of(letting(GROUND, ("then", X, Y), ("failed", "y"))), [[("fails", "y")]])
        self.assertEqual(rows_of(letting(GROUND, ("try", X, Y), ("often", "y", 1))), [[("fails", "x")]])
        self.assertEqual(rows_of(letting(GROUND, ("try", X, ("try", X, Y)), ("often", "y", 1))), [[("fails", "x")]])
        # x fails first, and then does not
        self.assertEqual(rows_of(letting(GROUND, ("try", X, ("then", X, Y)), ("often", "y", 1))),
                         [[("fails", "x"), ("writes", "x"), ("shows", "x", "x")]])
        self.assertEqual(rows_of(letting(GROUND, ("then", X, Y), ("stays",))), [[("stays", "x")], [("stays", "y")]])

    def test_the_greatest_permits(self):
        self.assertEqual(barring(GROUND, ("then", X, Y), ("stays",)),
                         [FULL.without(("stays", "x")).without(("stays", "y"))])
        term = ("try", X, ("then", X, Y))
        self.assertEqual(barring(GROUND, term, ("often", "y", 1)),
                         sorted([FULL.without(("fails", "x")), FULL.without(("shows", "x", "x"))], key=key))

    def test_sharing_what_is_shown(self):
        # z sees by what both others set together in which order they did it
        ground = Ground({"x": 0, "y": 0, "z": 0})
        x, y, z = [("use", letter, ()) for letter in ground]
        term = ("if", ("then", x, ("then", y, z)), ("if", ("then", x, z), ("value", "a"), ("fail", "e")), ("value", "b"))
        told = [permits.rows() for permits in letting(ground, term, ("fail", "e"))]
        self.assertIn([("writes", "x"), ("writes", "y"), ("shows", "x", "z"), ("shows", "y", "z"), ("shares", "x", "y")],
                      told)

    def test_what_nothing_lets(self):
        for event in (("failed", "y"), ("often", "x", 2), ("fail", "e"), ("often", "plus", 1)):
            self.assertEqual(letting(GROUND, X, event), [])
            self.assertEqual(barring(GROUND, X, event), [FULL])
        dead = ("reached", (1,))
        self.assertEqual(letting(GROUND, ("and", ("value", "false"), X), dead), [])
        self.assertEqual(barring(GROUND, ("and", ("value", "false"), X), dead), [FULL])

    def test_what_is_let_without_any_permission(self):
        for term, event in ((X, ("often", "x", 1)), (("and", X, Y), ("reached", (1,))), (("fail", "e"), ("fail", "e")),
                            (("if", X, A, ("fail", "e")), ("fail", "e")), (KA, ("fail", "bad"))):
            self.assertEqual(letting(GROUND, term, event), [NONE])
            self.assertEqual(barring(GROUND, term, event), [])

    def test_what_a_fact_always_lets(self):
        self.assertEqual(letting(GROUND, ("use", "k", (X,)), ("failed", "k")), [NONE])
        self.assertEqual(barring(GROUND, ("use", "k", (X,)), ("failed", "k")), [])
        told = letting(GROUND, ("then", ("use", "k", (Y,)), X), ("failed", "x"))
        self.assertEqual([permits.rows() for permits in told], [[("fails", "x"), ALWAYS]])

    def test_in_order(self):
        term = ("try", ("then", X, Y), ("last", ("try", X, A), ("then", Y, X)))
        for event in some_events(GROUND, term) + [("reached", path) for path in parts(GROUND, term)]:
            for told in (letting(GROUND, term, event), barring(GROUND, term, event)):
                self.assertEqual(told, sorted(told, key=key))
                for permits in told:
                    self.assertIs(type(permits), Permits)
                    self.assertEqual(permits.ground, GROUND)


class ByAllPermits(unittest.TestCase):
    """Point 40, held to all permits of small grounds, one by one."""

    grounds = [Ground({"x": 0, "y": 0}), Ground({"y": 1, "k": 0}, ["k"]),
               Ground({"x": 0, "g": 2}, ["g"], ["g"], [("g", ("a", "b"), ("value", "b")), ("g", ("a", "a"), ("fail", "b"))])]

    def check(self, ground, every, term, event):
        good = [permits for permits in every if lets(ground, permits, term, event)]
        bad = [permits for permits in every if permits not in good]
        least = [permits for permits in good if not any(p != permits and p.within(permits) for p in good)]
        most = [permits for permits in bad if not any(p != permits and permits.within(p) for p in bad)]
        self.assertEqual(letting(ground, term, event), sorted(least, key=key), (term, event))
        self.assertEqual(barring(ground, term, event), sorted(most, key=key), (term, event))
        for permits in every:
            self.assertIs(permits in good, any(one.within(permits) for one in least))
            self.assertIs(permits in bad, any(permits.within(one) for one in most))

    def test_by_chance(self):
        chance = random.Random(40)
        for ground in self.grounds[1:]:
            every = all_permits(ground)
            for _ in range(40):
                term = checked(ground, random_term(chance, ground, chance.randrange(2, 9)))
                events = some_events(ground, term) + [("reached", path) for path in parts(ground, term)]
                self.check(ground, every, term, chance.choice(events))

    def test_two_letters(self):
        every = all_permits(self.grounds[0])
        term = ("if", ("try", X, Y), ("then", Y, X), ("then", X, ("if", X, Y, A)))
        for event in (("reached", (2, 1, 1)), ("reached", (2, 1, 2)), ("failed", "y"), ("often", "x", 2)):
            self.check(self.grounds[0], every, term, event)


class WrongThings(unittest.TestCase):
    def calls(self, term, event):
        return (lambda: lets(GROUND, FULL, term, event), lambda: way_to(GROUND, FULL, term, event),
                lambda: letting(GROUND, term, event), lambda: barring(GROUND, term, event))

    def test_no_events(self):
        term = ("then", X, ("if", Y, A, B))
        wrong = any_objects() + ["stays", "reached", ["failed"], ("stays", "x"), ("stays", None), ("stays", ()), ("fail",)]
        wrong += [("fail", name) for name in NO_NAMES] + [("fail", ["e"]), ("fail", "e", "f"), ("Fail", "e")]
        wrong += [("failed", thing) for thing in any_objects() if thing not in ("x", "y")]
        wrong += [("failed", "z"), ("failed", "e"), ("failed", "x", 1), ("reached",), ("reached", (), ())]
        wrong += [("reached", path) for path in [(2,), (0, 0), (1, 3), (-1,), (True,), (False,), (1, True), ("0",), "", "1",
                                                 0, None, [None], [[]], {}, ((),), (1, (0,)), (10 ** 20,), GROUND]]
        wrong += [("reach", ()), ("Reached", (1,)), (None, ()), (0, (1,)), ("stays", (1,)), ("fail", (1,)), ("", ())]
        wrong += [("often", "x"), ("often", "z", 1), ("often", ["x"], 1), ("often", None, 1), ("often", 1, "x"),
                  ("often", "x", 1, 1), ("times", "x", 1)]
        wrong += [("often", "x", k) for k in any_objects() + [10, -3, "1", (1,)] if k not in (1, 2, 3) or k is True]
        wrong += [(thing, "e") for thing in any_objects()] + [(thing,) for thing in any_objects()]
        for event in wrong:
            for call in self.calls(term, event):
                with self.assertRaises(BadEvent, msg=event) as caught:
                    call()
                self.assertIs(caught.exception.event, event)

    def test_an_event_of_another_term(self):
        for call in self.calls(X, ("reached", (0,))):
            with self.assertRaises(BadEvent):
                call()

    def test_wrong_terms_come_first(self):
        for thing in any_objects():
            for call in self.calls(("not", thing), None):
                with self.assertRaises(BadTerm) as caught:
                    call()
                self.assertEqual(caught.exception.path, (0,))

    def test_permits_of_another_ground_come_ahead_of_all(self):
        other = Permits.full(Ground({"x": 0}))
        for call in (lets, way_to):
            for term, event in ((X, ("stays",)), (None, ("stays",)), (X, None), (None, None)):
                with self.assertRaises(UnlikeGrounds):
                    call(GROUND, other, term, event)


class Conventions(unittest.TestCase):
    term = ("then", X, ("try", Y, A))

    def test_lists_and_tuples(self):
        for event in (["stays"], ["fail", "e"], ["failed", "y"], ["reached", [1, 1]], ("reached", [1, 1]), ["reached", (1, 1)],
                      ["often", "x", 2]):
            like = tuple(tuple(part) if isinstance(part, list) else part for part in event)
            passed = copy.deepcopy(event)
            term = ["then", ["use", "x", []], ["try", ["use", "y", ()], ["value", "a"]]]
            self.assertEqual(way_to(GROUND, FULL, term, event), way_to(GROUND, FULL, self.term, like))
            self.assertEqual(lets(GROUND, FULL, term, event), lets(GROUND, FULL, self.term, like))
            self.assertEqual(letting(GROUND, term, event), letting(GROUND, self.term, like))
            self.assertEqual(barring(GROUND, term, event), barring(GROUND, self.term, like))
            self.assertEqual(event, passed)

    def test_by_name(self):
        event = ("failed", "x")
        for function in (lets, way_to):
            told = function(GROUND, FULL, self.term, event)
            self.assertEqual(function(ground=GROUND, permits=FULL, term=self.term, event=event), told)
            self.assertEqual(function(event=event, term=self.term, permits=FULL, ground=GROUND), told)
        for function in (letting, barring):
            told = function(GROUND, self.term, event)
            self.assertEqual(function(ground=GROUND, term=self.term, event=event), told)
            self.assertEqual(function(event=event, term=self.term, ground=GROUND), told)

    def test_new_lists(self):
        for function in (letting, barring):
            told = function(GROUND, self.term, ("stays",))
            told.clear()
            self.assertNotEqual(function(GROUND, self.term, ("stays",)), [])


class TheLimits(unittest.TestCase):
    def test_large_terms(self):
        ground = Ground({"x": 0, "y": 1, "z": 2, "p": 2, "q": 1, "r": 2, "s": 0}, ["p", "q", "r", "s"], ["p"],
                        [("q", (name,), ("fail", "e")) for name in "abcdef"])
        x, a = ("use", "x", ()), ("value", "a")
        y, z = ("use", "y", (a,)), ("use", "z", (a, a))
        term = ("then", ("try", x, a), ("then", ("try", y, a), ("last", z, x)))
        self.assertEqual(len(parts(ground, term)), 14)
        events = [("stays",), ("fail", "e"), ("often", "x", 2), ("often", "x", 9), ("reached", (1, 1, 1))]
        for event in events + [("failed", letter) for letter in ground]:
            least, most = letting(ground, term, event), barring(ground, term, event)
            for permits, told in itertools.chain(zip(least, [True] * 99), zip(most, [False] * 99)):
                self.assertIs(lets(ground, permits, term, event), told)

    def test_many_letters(self):
        ground = Ground({"x": 0, "y": 0, "z": 1, "w": 2, "p": 2, "q": 2, "r": 1}, ["p", "q", "r"], ["p", "q"],
                        [("r", (name,), ("fail", name)) for name in "abcdef"])
        term = ("then", ("try", X, A), ("if", ("use", "w", (A, Y)), ("use", "p", (X, A)), ("use", "r", (A,))))
        self.assertIs(lets(ground, Permits.full(ground), term, ("fail", "a")), True)
        self.assertEqual(way_to(ground, Permits(ground), term, ("fail", "a")), (1,))
        self.assertIs(lets(ground, Permits.full(ground), term, ("often", "x", 3)), False)


if __name__ == "__main__":
    unittest.main()
