"""Points 28 and 29: what can be told of a term."""

import random
import unittest

from any_objects import any_objects
from freeworldrules.errors import BadTerm, UnlikeGrounds
from freeworldrules.findings import counts, failures, known, may_stay, needless, never_more, unreached
from freeworldrules.grounds import Ground
from freeworldrules.permits import Permits
from freeworldrules.rules import holds
from freeworldrules.runs import run
from freeworldrules.terms import part_at, parts, put_at
from model import Model, model_ways, random_term

GROUND = Ground({"y": 0, "x": 0, "z": 1, "plus": 2, "k": 1}, ["plus", "k"], ["plus"],
                [("plus", ("a", "b"), ("value", "false")), ("plus", ("b", "b"), ("fail", "same")),
                 ("k", ("c",), ("value", "d"))])

X, Y = ("use", "x", ()), ("use", "y", ())
A, B, C, T, F = ("value", "a"), ("value", "b"), ("value", "c"), ("value", "true"), ("value", "false")
NO = Permits(GROUND)
FULL = Permits.full(GROUND)


def then(*terms):
    return terms[0] if len(terms) == 1 else ("then", terms[0], then(*terms[1:]))


def z(term):
    return ("use", "z", (term,))


def k(term):
    return ("use", "k", (term,))


def plus(one, other):
    return ("use", "plus", (one, other))


def permits(*rows):
    return Permits(GROUND, rows)


class Known(unittest.TestCase):
    def test_the_end_that_is_the_same_in_all_ways(self):
        self.assertEqual(known(GROUND, FULL, A), ("value", A, ()))
        self.assertEqual(known(GROUND, FULL, plus(B, A)), ("value", F, ()))
        self.assertEqual(known(GROUND, FULL, plus(B, B)), ("fails", ("fail", "same"), ()))
        self.assertEqual(known(GROUND, NO, then(X, ("fail", "e"))), ("fails", ("fail", "e"), ()))
        self.assertEqual(known(GROUND, NO, X), ("value", ("gave", "x", 1), ()))
        self.assertEqual(known(GROUND, permits(("writes", "x")), then(X, A)), ("value", A, (("x", (1,)),)))
        self.assertEqual(known(GROUND, NO, ("if", X, A, A)), ("value", A, ()))
        self.assertEqual(known(GROUND, permits(("fails", "x")), ("try", then(X, A), A)), ("value", A, ()))

    def test_an_end_that_differs_between_two_ways(self):
        self.assertIsNone(known(GROUND, NO, ("if", X, A, B)))
        self.assertIsNone(known(GROUND, permits(("fails", "x")), then(X, A)))
        self.assertIsNone(known(GROUND, permits(("stays", "x")), then(X, A)))
        # the same value with other things left
        self.assertIsNone(known(GROUND, permits(("writes", "y")), ("if", X, then(Y, A), A)))
        self.assertIsNone(known(GROUND, permits(("shares", "x", "y")), ("if", X, then(X, Y, A), then(Y, X, A))))


class Failures(unittest.TestCase):
    def test_names_ascending_then_letters_in_order(self):
        term = then(("try", X, ("fail", "zz")), ("try", Y, ("fail", "b")), z(("if", X, ("fail", "aa"), A)))
        within = permits(("fails", "x"), ("fails", "y"), ("fails", "z"))
        self.assertEqual(failures(GROUND, within, term), [("fail", "aa"), ("fail", "b"), ("fail", "zz"), ("failed", "z")])
        self.assertEqual(failures(GROUND, within, then(X, Y, z(A))), [("failed", "y"), ("failed", "x"), ("failed", "z")])

        # not as they are met
        self.assertEqual(failures(GROUND, NO, ("if", X, ("fail", "zz"), ("if", Y, ("fail", "b"), ("fail", "aa")))),
                         [("fail", "aa"), ("fail", "b"), ("fail", "zz")])

    def test_a_failure_with_the_name_of_a_letter(self):
        self.assertEqual(failures(GROUND, FULL, ("fail", "x")), [("fail", "x")])
        self.assertEqual(failures(GROUND, permits(("fails", "x")), then(X, ("fail", "y"))), [("fail", "y"), ("failed", "x")])

    def test_each_once(self):
        within = permits(("fails", "x"), ("shows", "y", "x"))
        self.assertEqual(failures(GROUND, within, then(X, Y, X, ("if", X, ("fail", "e"), ("fail", "e")))),
                         [("fail", "e"), ("failed", "x")])

    def test_none(self):
        self.assertEqual(failures(GROUND, NO, then(X, Y, A)), [])
        self.assertEqual(failures(GROUND, permits(("fails", "x")), ("try", X, A)), [])
        self.assertEqual(failures(GROUND, FULL, ("if", T, A, ("fail", "e"))), [])
        self.assertEqual(failures(GROUND, permits(("stays", "x")), X), [])

    def test_of_facts(self):
        self.assertEqual(failures(GROUND, NO, plus(B, B)), [("fail", "same")])
        self.assertEqual(failures(GROUND, NO, plus(A, A)), [("failed", "plus")])
        self.assertEqual(failures(GROUND, NO, ("if", X, plus(B, B), plus(A, A))), [("fail", "same"), ("failed", "plus")])

    def test_what_last_fails_with(self):
        within = permits(("fails", "x"), ("fails", "y"))
        self.assertEqual(failures(GROUND, within, ("last", X, Y)), [("failed", "y"), ("failed", "x")])
        self.assertEqual(failures(GROUND, within, ("last", X, ("fail", "e"))), [("fail", "e")])


class MayStay(unittest.TestCase):
    def test_in_some_way(self):
        within = permits(("stays", "x"))
        for term, end in ((X, True), (then(Y, A), False), (("if", Y, A, X), True), (("if", T, A, X), False),
                          (("try", X, A), True), (("try", A, X), False), (("try", ("fail", "e"), X), True),
                          (("last", A, X), True), (A, False), (z(X), True)):
            self.assertIs(may_stay(GROUND, within, term), end)
            self.assertIs(may_stay(GROUND, NO, term), False)
        self.assertIs(may_stay(GROUND, permits(("stays", "k")), k(C)), False)
        self.assertIs(may_stay(GROUND, permits(("stays", "k")), k(A)), True)


class Unreached(unittest.TestCase):
    def test_parts_to_which_no_way_comes(self):
        for term, paths in (
                (("if", T, A, ("not", B)), [(2,), (2, 0)]), (("if", F, A, B), [(1,)]), (("if", X, A, B), []),
                (("and", F, X), [(1,)]), (("or", A, X), [(1,)]), (("and", A, X), []), (("try", A, X), [(1,)]),
                (("try", X, ("not", A)), [(1,), (1, 0)]), (then(("fail", "e"), X), [(1,)]), (A, []),
                (("bind", "v", ("fail", "e"), ("name", "v")), [(1,)]), (("last", ("fail", "e"), X), []),
                (plus(("fail", "e"), X), [(1,)]), (("if", plus(A, B), A, B), [(1,)]),
                (("if", X, ("if", X, A, B), ("if", X, A, B)), [(1, 2), (2, 1)])):
            self.assertEqual(unreached(GROUND, NO, term), paths, term)

    def test_permissions_count(self):
        self.assertEqual(unreached(GROUND, permits(("fails", "x")), ("try", X, A)), [])
        self.assertEqual(unreached(GROUND, permits(("stays", "x")), ("try", X, A)), [(1,)])
        self.assertEqual(unreached(GROUND, permits(("shows", "x", "x")), ("if", X, A, ("if", X, A, B))), [])
        self.assertEqual(unreached(GROUND, NO, ("if", X, A, ("if", X, A, B))), [(2, 1)])

    def test_in_the_order_of_parts(self):
        term = ("if", F, ("and", ("not", A), B), ("try", A, ("then", X, Y)))
        self.assertEqual(unreached(GROUND, FULL, term), [(1,), (1, 0), (1, 0, 0), (1, 1), (2, 1), (2, 1, 0), (2, 1, 1)])


class Needless(unittest.TestCase):
    def test_parts_that_can_be_put_by_any_value(self):
        for term, paths in (
                (("if", T, A, ("not", B)), [(2,), (2, 0)]), (then(A, B), [(0,)]), (then(X, B), [(0,)]),
                (("if", X, A, A), [(0,)]), (("if", X, A, B), []), (A, []), (("bind", "v", X, B), [(0,)]),
                (("bind", "v", X, ("name", "v")), []), (("last", A, X), [(1,)]), (plus(A, B), []),
                (then(k(X), B), [(0,), (0, 0)]), (then(z(X), z(X)), [(0,), (0, 0)]), (("fail", "e"), [])):
            self.assertEqual(needless(GROUND, NO, term), paths, term)

    def test_effects_count(self):
        self.assertEqual(needless(GROUND, permits(("writes", "x")), then(X, Y, B)), [(1, 0)])
        self.assertEqual(needless(GROUND, permits(("fails", "x")), then(X, Y, B)), [(1, 0)])
        self.assertEqual(needless(GROUND, permits(("stays", "x")), then(Y, X, B)), [(0,)])
        self.assertEqual(needless(GROUND, permits(("shows", "x", "x")), then(X, X, B)), [])

    def test_a_value_that_no_name_of_the_term_has(self):
        # all names in the term and true and false are true or not alike, but for one that is another one
        self.assertEqual(needless(GROUND, NO, ("if", T, A, B)), [(2,)])
        ground = Ground({"k": 1}, ["k"], [], [("k", (name,), ("value", "a")) for name in ("a", "true", "false")])
        self.assertEqual(needless(ground, Permits(ground), ("use", "k", (A,))), [])
        self.assertEqual(needless(ground, Permits(ground), ("then", ("use", "k", (A,)), A)), [(0,), (0, 0)])

    def test_a_value_that_no_fact_has(self):
        names = "abcdefghijklmnopqrstuvwxyz"
        ground = Ground({"k": 1}, ["k"], [], [("k", (name,), ("value", "z")) for name in [*names, "true", "false"]])
        self.assertEqual(needless(ground, Permits(ground), ("use", "k", (A,))), [])
        self.assertEqual(needless(ground, Permits(ground), ("then", ("use", "k", (A,)), A)), [(0,), (0, 0)])

    def test_values_of_facts(self):
        # k ends otherwise for c alone, which does not stand in the term
        ground = Ground({"k": 1, "m": 0}, ["k", "m"], [], [("k", ("c",), ("fail", "e"))])
        term = ("then", ("try", ("use", "k", (A,)), A), B)
        self.assertEqual(needless(ground, Permits(ground), term), [(0,), (0, 0), (0, 0, 0), (0, 1)])
        term = ("then", ("use", "k", (A,)), B)
        self.assertEqual(needless(ground, Permits(ground), term), [])
        ground = Ground({"k": 1}, ["k"], [], [("k", ("c",), ("value", "d"))])
        self.assertEqual(needless(ground, Permits(ground), ("then", ("use", "k", (A,)), B)), [(0,), (0, 0)])
        self.assertEqual(needless(ground, Permits(ground), ("not", ("use", "k", (("value", "c"),)))), [])

    def test_the_whole_is_never_needless(self):
        chance = random.Random(291)
        for _ in range(40):
            term = random_term(chance, GROUND, chance.randrange(1, 8))
            self.assertNotIn((), needless(GROUND, permits(("fails", "x"), ("stays", "y")), term))

    def test_as_is_told(self):
        chance = random.Random(29)
        names = ["a", "b", "c", "d", "true", "false", "e", "other", "zz"]
        for _ in range(80):
            within = permits(*[row for row in FULL if chance.random() < 0.2])
            term = random_term(chance, GROUND, chance.randrange(1, 9))
            told = [path for path in parts(GROUND, term)
                    if all(holds(GROUND, within, term, put_at(GROUND, term, path, ("value", name))) for name in names)]
            self.assertEqual(needless(GROUND, within, term), told)
            gone = unreached(GROUND, within, term)
            self.assertEqual([path for path in gone if path not in told], [])


class Counts(unittest.TestCase):
    def test_all_letters_in_order(self):
        told = counts(GROUND, NO, A)
        self.assertEqual(list(told.items()), [(letter, (0, 0)) for letter in ("y", "x", "z", "plus", "k")])
        self.assertIs(type(told), dict)

    def test_at_least_and_at_most(self):
        self.assertEqual(counts(GROUND, NO, ("if", X, then(Y, Y), z(X))),
                         {"y": (0, 2), "x": (1, 2), "z": (0, 1), "plus": (0, 0), "k": (0, 0)})
        self.assertEqual(counts(GROUND, permits(("fails", "x")), then(X, Y))["y"], (0, 1))
        self.assertEqual(counts(GROUND, permits(("stays", "x")), then(X, Y)),
                         {"y": (0, 1), "x": (1, 1), "z": (0, 0), "plus": (0, 0), "k": (0, 0)})

    def test_the_same_number_twice(self):
        self.assertEqual(counts(GROUND, NO, then(X, X, X))["x"], (3, 3))
        # plus may always fail, for a fact tells a failure of it
        self.assertEqual(counts(GROUND, NO, plus(plus(X, Y), plus(Y, X)))["plus"], (1, 3))

    def test_what_facts_end_does_not_count(self):
        self.assertEqual(counts(GROUND, NO, then(plus(A, B), k(C), k(A))),
                         {"y": (0, 0), "x": (0, 0), "z": (0, 0), "plus": (0, 0), "k": (1, 1)})

    def test_as_is_told(self):
        chance = random.Random(292)
        for _ in range(100):
            within = permits(*[row for row in FULL if chance.random() < 0.3])
            term = random_term(chance, GROUND, chance.randrange(1, 13))
            many = []
            for bits, _ in model_ways(GROUND, within, (term,)):
                model = Model(GROUND, within, bits)
                model.run(term)
                many.append([row[0] for row in model.history])
            told = {letter: (min(row.count(letter) for row in many), max(row.count(letter) for row in many))
                    for letter in GROUND}
            self.assertEqual(counts(GROUND, within, term), told)


class NeverMore(unittest.TestCase):
    def test_in_each_way_of_both(self):
        for one, other, end in ((X, X, True), (A, X, True), (X, A, False), (X, Y, False), (then(X, X), X, False),
                                (X, then(X, X), True), (("if", X, Y, A), then(X, Y), True),
                                (("if", X, Y, A), X, False), (("bind", "v", X, plus(("name", "v"), ("name", "v"))), plus(X, X), True),
                                (plus(A, B), A, True), (k(A), A, False)):
            self.assertIs(never_more(GROUND, NO, one, other), end, (one, other))

    def test_each_letter_for_itself_and_in_the_same_way(self):
        # in both y is evaluated once at most, but not in the same way
        self.assertIs(never_more(GROUND, NO, ("if", X, Y, A), ("if", X, A, Y)), False)
        self.assertIs(never_more(GROUND, NO, ("if", X, Y, A), ("if", X, Y, Y)), True)

    def test_permissions_count(self):
        one, other = then(X, Y), then(Y, X)
        self.assertIs(never_more(GROUND, NO, one, other), True)
        self.assertIs(never_more(GROUND, permits(("fails", "y")), one, other), False)
        self.assertIs(never_more(GROUND, permits(("fails", "y")), other, one), True)
        self.assertIs(never_more(GROUND, permits(("stays", "y")), one, other), False)


class Errors(unittest.TestCase):
    calls = (known, failures, may_stay, unreached, needless, counts)

    def test_bad_terms(self):
        for thing in any_objects():
            for call in self.calls:
                with self.assertRaises(BadTerm) as caught:
                    call(GROUND, FULL, ("and", A, thing))
                self.assertEqual(caught.exception.path, (1,))
            for one, other, path in ((("not", thing), 3, (0,)), (A, ("and", A, thing), (1,))):
                with self.assertRaises(BadTerm) as caught:
                    never_more(GROUND, FULL, one, other)
                self.assertEqual(caught.exception.path, path)

    def test_unlike_grounds_ahead_of_terms(self):
        other = Permits(Ground({"x": 0}))
        for call in self.calls:
            with self.assertRaises(UnlikeGrounds):
                call(GROUND, other, 3)
        with self.assertRaises(UnlikeGrounds):
            never_more(GROUND, other, 3, 3)

    def test_what_is_told_is_new_and_what_is_passed_stays(self):
        term = ["if", ["use", "x", []], ["value", "a"], ["fail", "e"]]
        for call in (failures, unreached, needless, counts):
            first = call(GROUND, NO, term)
            first.clear()
            self.assertEqual(call(GROUND, NO, term), call(GROUND, NO, ("if", X, A, ("fail", "e"))))
        self.assertEqual(term, ["if", ["use", "x", []], ["value", "a"], ["fail", "e"]])
        self.assertEqual(part_at(GROUND, term, (2,)), ("fail", "e"))
        self.assertEqual(run(GROUND, NO, term), ("value", A, ()))


if __name__ == "__main__":
    unittest.main()
