"""Point 47: least terms."""

import copy
import itertools
import random
import unittest

from any_objects import any_objects
from freeworldrules.errors import BadNumber, BadTerm, UnlikeGrounds
from freeworldrules.grounds import Ground
from freeworldrules.names import all_parts
from freeworldrules.permits import Permits
from freeworldrules.rules import holds
from freeworldrules.smallest import alikes, smallest
from freeworldrules.terms import checked, size
from freeworldrules.texts import read, written
from model import model_holds, random_term

GROUND = Ground({"x": 0, "y": 1, "plus": 2}, ["plus"], ["plus"], [("plus", ("a", "b"), ("value", "c"))])

NONE, FULL = Permits(GROUND), Permits.full(GROUND)

SMALL = Ground({"x": 0, "if": 1}, ["if"])


def texts(ground, permits, text, most):
    return [written(ground, other) for other in alikes(ground, permits, read(ground, text), most)]


def all_terms(ground, single, many):
    """All terms with so many parts, told by hand."""
    if many == 1:
        return single + [("use", letter, ()) for letter, count in ground.letters().items() if count == 0]
    found = [("not", one) for one in all_terms(ground, single, many - 1)]
    found += [("use", letter, (one,)) for letter, count in ground.letters().items() if count == 1
              for one in all_terms(ground, single, many - 1)]
    for first in range(1, many - 1):
        for one in all_terms(ground, single, first):
            for other in all_terms(ground, single, many - 1 - first):
                found += [(word, one, other) for word in ("and", "or", "then", "try", "last")]
                found += [("use", letter, (one, other)) for letter, count in ground.letters().items() if count == 2]
    for first, second in itertools.product(range(1, many), repeat=2):
        if many - 1 - first - second > 0:
            found += [("if", one, two, three) for one in all_terms(ground, single, first)
                      for two in all_terms(ground, single, second)
                      for three in all_terms(ground, single, many - 1 - first - second)]
    return found


def by_hand(ground, permits, term, most, do_hold):
    values = {part for part in all_parts(term) if part[0] in ("value", "fail")}
    single = sorted(values | {("value", "true"), ("value", "false")})
    found = []
    for many in range(1, most + 1):
        good = [other for other in all_terms(ground, single, many) if do_hold(ground, permits, term, other)]
        found += sorted(good, key=lambda other: written(ground, other))
    return found


class Alikes(unittest.TestCase):
    def test_the_term_itself(self):
        self.assertEqual(texts(GROUND, FULL, "x()", 2), ["x()"])
        self.assertEqual(texts(GROUND, FULL, "fail(e)", 1), ["fail(e)"])
        self.assertEqual(texts(GROUND, FULL, "'a", 1), ["'a"])

    def test_fewer_parts_first_and_then_by_texts(self):
        told = alikes(SMALL, Permits(SMALL), read(SMALL, "then(x(), 'a)"), 4)
        sizes = [size(SMALL, other) for other in told]
        self.assertEqual(sizes, sorted(sizes))
        for many in (3, 4):
            same = [written(SMALL, other) for other in told if size(SMALL, other) == many]
            self.assertEqual(same, sorted(same))
            self.assertGreater(len(same), 1)

    def test_texts_compare_as_strings(self):
        # the sign ' is ahead of letters, the dot ahead of these and behind it
        ground = Ground({"if": 0, "x": 0, "aa": 0})
        term = read(ground, "if('true, 'b, then(.if(), aa()))")
        told = texts(ground, Permits(ground), "if('true, 'b, then(.if(), aa()))", 3)
        self.assertEqual(told[0], "'b")
        self.assertEqual(told[1:], sorted(told[1:]))
        self.assertIn("then(.if(), 'b)", told)
        self.assertLess(told.index("then('true, 'b)"), told.index("then(.if(), 'b)"))
        self.assertLess(told.index("then(.if(), 'b)"), told.index("then(aa(), 'b)"))
        self.assertEqual(alikes(ground, Permits(ground), term, 1), [("value", "b")])

    def test_values_and_failures_of_the_term(self):
        told = texts(GROUND, NONE, "and('a, fail(e))", 3)
        self.assertEqual(told[0], "fail(e)")
        self.assertIn("then('a, fail(e))", told)
        self.assertIn("then('true, fail(e))", told)
        self.assertIn("or('false, fail(e))", told)
        self.assertFalse(any("'b" in text or "'e" in text for text in told))
        # neither a value of a fact nor that of a name
        self.assertEqual(texts(GROUND, NONE, "plus('a, 'b)", 1), [])
        self.assertEqual(texts(GROUND, NONE, "bind(a, x(), a)", 2), ["x()"])
        self.assertEqual(texts(GROUND, NONE, "plus('a, 'b)", 3), ["plus('a, 'b)", "plus('b, 'a)"])

    def test_true_and_false_without_standing_there(self):
        self.assertEqual(texts(GROUND, NONE, "not('a)", 1), ["'false"])
        self.assertEqual(texts(GROUND, NONE, "not(not('a))", 1), ["'true"])

    def test_none_has_names_or_binds(self):
        for other in alikes(GROUND, NONE, read(GROUND, "bind(v, x(), plus(v, v))"), 4):
            self.assertTrue(all(part[0] not in ("name", "bind") for part in all_parts(other)))
        self.assertEqual(texts(GROUND, NONE, "bind(v, x(), plus(v, v))", 3), ["plus(x(), x())"])
        self.assertEqual(texts(GROUND, Permits(GROUND, [("shows", "x", "x")]), "bind(v, x(), plus(v, v))", 3), [])

    def test_within_permits(self):
        self.assertEqual(texts(GROUND, NONE, "then(x(), 'a)", 1), ["'a"])
        self.assertEqual(texts(GROUND, Permits(GROUND, [("stays", "x")]), "then(x(), 'a)", 1), [])
        self.assertIn("last('a, x())", texts(GROUND, Permits(GROUND, [("stays", "x")]), "then(x(), 'a)", 3))

    def test_by_hand(self):
        chance = random.Random(47)
        for _ in range(12):
            term = checked(GROUND, random_term(chance, GROUND, chance.randrange(2, 6)))
            permits = Permits(GROUND, [row for row in FULL if chance.random() < 0.15])
            self.assertEqual(alikes(GROUND, permits, term, 3), by_hand(GROUND, permits, term, 3, holds))
        for _ in range(6):
            term = checked(SMALL, random_term(chance, SMALL, chance.randrange(2, 6)))
            permits = Permits(SMALL, [row for row in Permits.full(SMALL) if chance.random() < 0.3])
            self.assertEqual(alikes(SMALL, permits, term, 3), by_hand(SMALL, permits, term, 3, model_holds))
            self.assertEqual(alikes(SMALL, permits, term, 4), by_hand(SMALL, permits, term, 4, holds))

    def test_more_parts_tell_more(self):
        for text in ("not(not(x()))", "then(x(), 'a)", "if(x(), 'true, 'false)"):
            every = texts(SMALL, Permits(SMALL), text, 4)
            for most in (1, 2, 3):
                fewer = texts(SMALL, Permits(SMALL), text, most)
                self.assertEqual(every[:len(fewer)], fewer)
                self.assertTrue(all(len(all_parts(read(SMALL, other))) > most for other in every[len(fewer):]))

    def test_kinds(self):
        told = alikes(GROUND, NONE, read(GROUND, "plus('a, x())"), 3)
        self.assertIs(type(told), list)
        x, a = ("use", "x", ()), ("value", "a")
        self.assertEqual(told, [("use", "plus", (a, x)), ("use", "plus", (x, a))])
        for other in told:
            self.assertEqual(checked(GROUND, other), other)
            self.assertIs(type(other[2]), tuple)
        told.clear()
        self.assertEqual(len(alikes(GROUND, NONE, read(GROUND, "plus('a, x())"), 3)), 2)


class Smallest(unittest.TestCase):
    def test_the_first_one_or_none(self):
        chance = random.Random(470)
        nothing = 0
        for _ in range(40):
            term = checked(GROUND, random_term(chance, GROUND, chance.randrange(2, 7)))
            permits = Permits(GROUND, [row for row in FULL if chance.random() < 0.15])
            most = chance.randrange(1, 4)
            told = alikes(GROUND, permits, term, most)
            self.assertEqual(smallest(GROUND, permits, term, most), told[0] if told else None)
            nothing += not told
        self.assertGreater(nothing, 3)

    def test_some(self):
        for text, least in (("if(not(x()), 'b, 'a)", "if(x(), 'a, 'b)"), ("then(plus(x(), x()), y('a))", "y('a)"),
                            ("if('a, x(), fail(e))", "x()"), ("or(x(), x())", "x()"), ("try(x(), fail(e))", "x()")):
            self.assertEqual(smallest(GROUND, NONE, read(GROUND, text), 4), read(GROUND, least))
        self.assertIsNone(smallest(GROUND, FULL, read(GROUND, "then(y(x()), y(x()))"), 4))


class WrongThings(unittest.TestCase):
    def test_each_error_in_order(self):
        other = Permits(Ground({"x": 0}))
        for function in (alikes, smallest):
            with self.assertRaises(UnlikeGrounds):
                function(GROUND, other, None, None)
            for thing in any_objects():
                with self.assertRaises(BadTerm) as caught:
                    function(GROUND, NONE, ("not", thing), None)
                self.assertEqual(caught.exception.path, (0,))
            for most in any_objects() + [-3, "2", [2], 0]:
                if most not in (1, 2, 3, 10 ** 20) or most is True:
                    with self.assertRaises(BadNumber) as caught:
                        function(GROUND, NONE, ("value", "a"), most)
                    self.assertIs(caught.exception.number, most)


class Conventions(unittest.TestCase):
    def test_by_name_and_lists_for_tuples(self):
        term = ["not", ["not", ["value", "a"]]]
        passed = copy.deepcopy(term)
        for function in (alikes, smallest):
            told = function(GROUND, NONE, ("not", ("not", ("value", "a"))), 2)
            self.assertEqual(function(GROUND, NONE, term, 2), told)
            self.assertEqual(function(ground=GROUND, permits=NONE, term=term, most=2), told)
            self.assertEqual(function(most=2, term=term, permits=NONE, ground=GROUND), told)
        self.assertEqual(term, passed)


class TheLimits(unittest.TestCase):
    def test_large_terms(self):
        for letters, fixed, text in (({"x": 0, "y": 0, "z": 0}, [], "if(if(x(), y(), z()), x(), y())"),
                                     ({"x": 0, "y": 0, "z": 0}, [], "if(if('a, 'b, 'c), 'd, 'e)"),
                                     ({"x": 2, "y": 2, "p": 2}, ["p"], "x(y('a, 'b), p('c, 'd))"),
                                     ({"x": 0, "y": 1, "p": 2}, ["p"], "p(y(x()), y(y(x())))")):
            ground = Ground(letters, fixed, fixed)
            term = read(ground, text)
            self.assertLessEqual(size(ground, term), 7)
            for permits in (Permits(ground), Permits.full(ground)):
                told = alikes(ground, permits, term, 4)
                self.assertEqual(smallest(ground, permits, term, 4), told[0] if told else None)
                for other in told[:20]:
                    self.assertTrue(holds(ground, permits, term, other))


if __name__ == "__main__":
    unittest.main()
