"""Points 22 to 25: what breaks a rule and what it needs."""

import random
import unittest

from any_objects import any_objects
from freeworldrules.errors import BadRelation, BadTerm
from freeworldrules.grounds import Ground
from freeworldrules.needs import breaking, compared, needs, never, weakest
from freeworldrules.permits import Permits
from freeworldrules.rules import holds
from model import all_permits, model_holds, random_term
from test_rules import NO_RELATIONS, RELATIONS

GROUND = Ground({"x": 0, "y": 0, "plus": 2, "k": 1}, ["plus", "k"], ["plus"], [("k", ("a",), ("fail", "bad"))])

X, Y = ("use", "x", ()), ("use", "y", ())
A, B = ("value", "a"), ("value", "b")

# what all permits of this ground have
ALWAYS = ("fails", "k")


def then(*terms):
    return terms[0] if len(terms) == 1 else ("then", terms[0], then(*terms[1:]))


def rows_of(told):
    return [[row for row in permits.rows() if row != ALWAYS] for permits in told]


def places(permits):
    every = Permits.full(permits.ground).rows()
    return [every.index(row) for row in permits.rows()]


def in_order(told):
    return sorted(told, key=lambda permits: (len(permits), places(permits)))


class Breaking(unittest.TestCase):
    def test_the_least_permits(self):
        self.assertEqual(rows_of(breaking(GROUND, then(X, A), A)), [[("fails", "x")], [("stays", "x")], [("writes", "x")]])
        self.assertEqual(rows_of(breaking(GROUND, then(X, A), A, "no worse")), [[("writes", "x")]])
        self.assertEqual(rows_of(breaking(GROUND, then(X, X), X)), [[("writes", "x"), ("shows", "x", "x")]])

    def test_by_the_number_of_rows_and_then_by_places(self):
        self.assertEqual(rows_of(breaking(GROUND, then(X, Y, A), then(Y, X, A))), [
            [("fails", "x"), ("fails", "y")],
            [("fails", "x"), ("stays", "y")],
            [("fails", "x"), ("writes", "y")],
            [("fails", "y"), ("stays", "x")],
            [("fails", "y"), ("writes", "x")],
            # x may stay by what y shows it
            [("stays", "x"), ("writes", "y"), ("shows", "y", "x")],
            [("stays", "y"), ("writes", "x"), ("shows", "x", "y")],
            [("writes", "x"), ("writes", "y"), ("shows", "x", "y")],
            [("writes", "x"), ("writes", "y"), ("shows", "y", "x")],
            [("writes", "x"), ("writes", "y"), ("shares", "x", "y")]])

    def test_permits_of_the_ground(self):
        told = breaking(GROUND, then(X, A), A)
        self.assertEqual([permits.rows() for permits in told],
                         [[("fails", "x"), ALWAYS], [ALWAYS, ("stays", "x")], [ALWAYS, ("writes", "x")]])
        for permits in told + weakest(GROUND, then(X, A), A):
            self.assertIs(type(permits), Permits)
            self.assertEqual(permits.ground, GROUND)

    def test_none_if_it_always_holds(self):
        self.assertEqual(breaking(GROUND, then(X, Y), then(X, Y)), [])
        self.assertEqual(breaking(GROUND, ("use", "plus", (X, A)), ("use", "plus", (A, X))), [])

    def test_no_permission_at_all_if_it_never_holds(self):
        self.assertEqual(breaking(GROUND, A, B), [Permits(GROUND)])
        self.assertEqual(breaking(GROUND, X, Y), [Permits(GROUND)])
        self.assertEqual(breaking(GROUND, ("use", "k", (B,)), ("then", ("use", "k", (B,)), A)), [Permits(GROUND)])

    def test_what_a_fact_always_lets(self):
        # k may fail because of the fact, also for b
        self.assertEqual(breaking(GROUND, then(("use", "k", (B,)), A), A), [Permits(GROUND)])
        told = breaking(GROUND, then(("use", "k", (B,)), A), A, "no worse")
        self.assertEqual(told, [])

    def test_relations(self):
        one, other = ("try", X, ("fail", "e")), ("try", X, ("fail", "f"))
        self.assertEqual(rows_of(breaking(GROUND, one, other)), [[("fails", "x")]])
        self.assertEqual(breaking(GROUND, one, other, "faults"), [])
        self.assertEqual(breaking(GROUND, one, other, "no worse"), [])
        self.assertEqual(rows_of(breaking(GROUND, X, ("try", X, A), "no worse")), [])
        self.assertEqual(rows_of(breaking(GROUND, ("try", X, A), X, "no worse")), [[("fails", "x")]])


class Weakest(unittest.TestCase):
    def test_the_greatest_permits(self):
        full = Permits.full(GROUND)
        self.assertEqual(weakest(GROUND, then(X, X), X), [full.without(("shows", "x", "x"))])
        self.assertEqual(weakest(GROUND, then(X, A), A),
                         [full.without(("fails", "x")).without(("stays", "x")).without(("writes", "x"))])

    def test_all_permissions_if_it_always_holds(self):
        self.assertEqual(weakest(GROUND, X, X), [Permits.full(GROUND)])

    def test_none_if_it_never_holds(self):
        self.assertEqual(weakest(GROUND, A, B), [])
        self.assertEqual(weakest(GROUND, then(("use", "k", (B,)), A), A), [])

    def test_no_permission_but_those_that_are_always_had(self):
        ground = Ground({"x": 0})
        term = then(("try", X, A), ("last", X, ("try", X, A)), A)
        self.assertEqual(weakest(ground, term, A), [Permits(ground)])
        self.assertEqual([permits.rows() for permits in breaking(ground, term, A)],
                         [[("fails", "x")], [("stays", "x")], [("writes", "x")]])

    def test_in_order(self):
        told = weakest(GROUND, then(X, Y, A), then(Y, X, A))
        self.assertEqual(told, in_order(told))
        self.assertEqual(len(told), 3)


class ByAllPermits(unittest.TestCase):
    """Points 22 and 23, held to all permits of small grounds, one by one."""

    grounds = [Ground({"x": 0, "y": 0}), Ground({"y": 1, "k": 0}, ["k"]),
               Ground({"x": 0, "g": 2}, ["g"], ["g"], [("g", ("a", "b"), ("value", "b")), ("g", ("a", "a"), ("fail", "b"))])]

    rules = [(then(X, Y), then(Y, X)), (then(X, Y), Y), (then(X, Y, X), then(Y, X)), (("try", X, Y), ("try", Y, X)),
             (("if", X, Y, A), ("if", ("not", X), A, Y)), (("last", X, Y), ("bind", "v", X, then(Y, ("name", "v")))),
             (("and", X, Y), ("if", X, Y, ("value", "false"))), (then(X, X, Y, Y), then(X, Y)), (X, Y), (X, X)]

    def check(self, ground, every, one, other, relation):
        good = [permits for permits in every if holds(ground, permits, one, other, relation)]
        bad = [permits for permits in every if permits not in good]
        least = [permits for permits in bad if not any(p != permits and p.within(permits) for p in bad)]
        most = [permits for permits in good if not any(p != permits and permits.within(p) for p in good)]
        self.assertEqual(breaking(ground, one, other, relation), in_order(least), (one, other, relation))
        self.assertEqual(weakest(ground, one, other, relation), in_order(most), (one, other, relation))
        self.assertIs(never(ground, one, other, relation), good == [])
        rows = [row for row in Permits.full(ground) if any(row in permits for permits in least)]
        self.assertEqual(needs(ground, one, other, relation), rows)

    def test_some_rules(self):
        every = all_permits(self.grounds[0])
        self.assertEqual(len(every), 656)
        for place, (one, other) in enumerate(self.rules):
            self.check(self.grounds[0], every, one, other, RELATIONS[place % 3])

    def test_rules_by_chance(self):
        chance = random.Random(22)
        for ground in self.grounds[1:]:
            every = all_permits(ground)
            for _ in range(25):
                one, other = [random_term(chance, ground, chance.randrange(1, 8)) for _ in range(2)]
                self.check(ground, every, one, other, chance.choice(RELATIONS))


class ThreeLetters(unittest.TestCase):
    """More permits than can be gone through: 288,320 without the fixed letters."""

    ground = Ground({"x": 0, "y": 0, "z": 1, "p": 2, "q": 1, "r": 2, "s": 0}, ["p", "q", "r", "s"], ["p"])
    Z, S = ("use", "z", (X,)), ("use", "s", ())
    rules = [(then(X, Y, Z, A), then(("use", "z", (X,)), Y, A)),
             (("use", "p", (X, ("use", "p", (Y, S)))), ("use", "p", (("use", "p", (S, Y)), X))),
             (then(("try", X, A), ("try", Y, A), ("try", ("use", "z", (B,)), A)),
              then(("try", ("use", "z", (B,)), A), ("try", Y, A), ("try", X, A), A)),
             (("bind", "v", X, ("use", "r", (Y, ("use", "z", (("name", "v"),))))),
              ("bind", "w", Y, ("use", "r", (("name", "w"), ("use", "z", (X,)))))),
             (then(X, ("use", "z", (A,)), X, ("use", "z", (A,)), Y), then(Y, A))]

    def test_it_holds(self):
        chance = random.Random(23)
        full = Permits.full(self.ground)
        for one, other in self.rules:
            for relation in RELATIONS:
                least, most = breaking(self.ground, one, other, relation), weakest(self.ground, one, other, relation)
                self.check_each_of(self.ground, one, other, least, most, relation)
                for _ in range(15):
                    rows = [row for row in full if chance.random() < chance.choice((0.1, 0.3, 0.9))]
                    if most and chance.random() < 0.6:
                        rows = chance.choice(most).rows() + rows[:1]
                    permits = Permits(self.ground, rows)
                    good = model_holds(self.ground, permits, one, other, relation)
                    self.assertIs(any(permits.within(p) for p in most), good)
                    self.assertIs(any(p.within(permits) for p in least), not good)

    def check_each_of(self, ground, one, other, least, most, relation="same"):
        for permits in least:
            self.assertFalse(holds(ground, permits, one, other, relation))
            for row in permits:
                self.assertTrue(holds(ground, permits.without(row), one, other, relation))
        for permits in most:
            self.assertTrue(holds(ground, permits, one, other, relation))
            for row in Permits.full(ground):
                if row not in permits:
                    more = permits.joined(Permits(ground, [row]))
                    self.assertFalse(holds(ground, more, one, other, relation))
        self.assertEqual((least, most), (in_order(least), in_order(most)))

    def test_two_that_share_what_the_third_sees(self):
        # what is left of y and z is alike, but x saw them the other way round
        ground = Ground({"x": 0, "y": 0, "z": 0})
        z = ("use", "z", ())
        one, other = then(Y, z, ("bind", "v", X, then(Y, ("name", "v")))), then(z, Y, X)
        rows = [("writes", "y"), ("writes", "z"), ("shows", "y", "x"), ("shows", "z", "x"), ("shares", "y", "z")]
        least = breaking(ground, one, other)
        self.assertIn(rows, [permits.rows() for permits in least])
        self.check_each_of(ground, one, other, least, weakest(ground, one, other))

    def test_at_the_limits(self):
        z = ("use", "z", (("use", "q", (A,)),))
        one = then(("try", X, A), ("try", Y, B), ("try", z, A))
        self.assertGreater(len(breaking(self.ground, one, then(z, Y, A))), 0)
        one, other = then(X, Y, ("use", "z", (B,)), A), then(("use", "z", (B,)), Y, X, A)
        self.assertEqual(len(breaking(self.ground, one, other)), 30)
        self.assertEqual(len(weakest(self.ground, one, other)), 7)


class NeedsAndNever(unittest.TestCase):
    def test_needs(self):
        self.assertEqual(needs(GROUND, then(X, X), X), [ALWAYS, ("writes", "x"), ("shows", "x", "x")])
        self.assertEqual(needs(Ground({"x": 0}), then(X, X), X), [("writes", "x"), ("shows", "x", "x")])
        self.assertEqual(needs(Ground({"x": 0}), then(X, A), A), [("fails", "x"), ("stays", "x"), ("writes", "x")])
        self.assertEqual(needs(Ground({"x": 0}), then(X, A), A, "no worse"), [("writes", "x")])
        self.assertEqual(needs(GROUND, X, X), [])
        self.assertEqual(needs(Ground({"x": 0}), A, B), [])

    def test_never(self):
        for one, other, relation, end in ((A, B, "same", True), (X, Y, "same", True), (X, X, "same", False),
                                          (then(X, A), A, "same", False), (("fail", "a"), ("fail", "b"), "same", True),
                                          (("fail", "a"), ("fail", "b"), "faults", False),
                                          (("fail", "a"), A, "no worse", False), (A, ("fail", "a"), "no worse", True),
                                          (then(("use", "k", (B,)), A), A, "same", True)):
            self.assertIs(never(GROUND, one, other, relation), end)


class Compared(unittest.TestCase):
    swap, away, twice = (then(X, Y, A), then(Y, X, A)), (then(X, A), A), (then(X, X), X)

    def test_which_holds_wherever(self):
        # x away: x does not fail, stay or write, so all others of x hold, too
        self.assertEqual(compared(GROUND, [self.swap, self.away, self.twice]), [(1, 0), (1, 2)])
        ground = Ground({"x": 0})
        self.assertEqual(compared(ground, [self.twice, self.away, (X, X), (A, B)]),
                         [(0, 2), (1, 0), (1, 2), (3, 0), (3, 1), (3, 2)])
        self.assertEqual(compared(ground, [self.away, list(self.away)]), [(0, 1), (1, 0)])
        self.assertEqual(compared(ground, []), [])
        self.assertEqual(compared(ground, (self.away,)), [])

    def test_relations(self):
        ground = Ground({"x": 0})
        pairs = [(then(X, A), A), (then(X, X), X)]
        self.assertEqual(compared(ground, pairs), [(0, 1)])
        self.assertEqual(compared(ground, pairs, "no worse"), [(0, 1)])
        self.assertEqual(compared(ground, [(("fail", "a"), ("fail", "b")), (A, B)], "faults"), [(1, 0)])

    def test_by_all_permits(self):
        ground = Ground({"x": 0, "y": 0})
        every = all_permits(ground)[::3] + [Permits.full(ground)]
        pairs = [self.swap, self.away, self.twice, (then(X, Y), Y), (("try", X, Y), X), (X, Y), (X, X)]
        good = [[holds(ground, permits, *pair) for permits in every] for pair in pairs]
        told = [(i, j) for i in range(7) for j in range(7)
                if i != j and all(two or not one for one, two in zip(good[i], good[j]))]
        self.assertEqual(compared(ground, pairs), told)

    def bad_path(self, pairs):
        with self.assertRaises(BadTerm) as caught:
            compared(GROUND, pairs, 3)
        return caught.exception.path

    def test_errors(self):
        for thing in any_objects():
            if not isinstance(thing, (list, tuple)):
                self.assertEqual(self.bad_path(thing), ())
            if not isinstance(thing, (list, tuple)) or len(thing) != 2:
                self.assertEqual(self.bad_path([(A, A), thing]), (1,))
                self.assertEqual(self.bad_path([(A, A), thing, (3, 3)]), (1,))
            self.assertEqual(self.bad_path([(A, A), (thing, 3)]), (1, 0))
            self.assertEqual(self.bad_path([(A, A), [A, ("and", A, thing)], 3]), (1, 1, 1))
        for pair in ((A,), (A, A, A), "ab", ()):
            self.assertEqual(self.bad_path([pair]), (0,))
        for relation in any_objects() + NO_RELATIONS:
            with self.assertRaises(BadRelation) as caught:
                compared(GROUND, [], relation)
            self.assertIs(caught.exception.relation, relation)


class Errors(unittest.TestCase):
    def test_terms_ahead_of_relations(self):
        for call in (breaking, weakest, needs, never):
            for thing in any_objects():
                for one, other, path in ((("not", thing), 3, (0,)), (A, ("and", A, thing), (1,))):
                    with self.assertRaises(BadTerm) as caught:
                        call(GROUND, one, other, 3)
                    self.assertEqual(caught.exception.path, path)
            for relation in any_objects() + NO_RELATIONS:
                with self.assertRaises(BadRelation) as caught:
                    call(GROUND, A, A, relation)
                self.assertIs(caught.exception.relation, relation)


if __name__ == "__main__":
    unittest.main()
