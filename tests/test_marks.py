"""Point 41: marks of grounds, and on which of them a rule rests."""

import copy
import itertools
import random
import unittest

from any_objects import any_objects
from freeworldrules.errors import BadMark, BadRelation, BadTerm, UnlikeGrounds
from freeworldrules.grounds import Ground
from freeworldrules.marks import marks_of, resting, with_marks
from freeworldrules.permits import Permits
from freeworldrules.rules import holds
from model import random_term
from test_rules import NO_RELATIONS, RELATIONS

FACTS = [("plus", ("a", "b"), ("value", "c")), ("k", ("a",), ("fail", "bad")), ("times", ("b", "a"), ("value", "c")),
         ("k", ("b",), ("value", "true"))]

GROUND = Ground({"x": 0, "plus": 2, "y": 0, "times": 2, "k": 1}, ["k", "plus", "times"], ["times", "plus"], FACTS)

X, Y = ("use", "x", ()), ("use", "y", ())
A, B, C = ("value", "a"), ("value", "b"), ("value", "c")

MARKS = [("commutes", "plus"), ("commutes", "times"), ("fact", 0), ("fact", 1), ("fact", 2), ("fact", 3)]

NONE = Permits(GROUND)


def plus(one, other):
    return ("use", "plus", (one, other))


def times(one, other):
    return ("use", "times", (one, other))


def k(one):
    return ("use", "k", (one,))


def least_by_all(ground, permits, one, other, relation):
    """The least tuples of marks, by trying all of them."""
    found = []
    for many in range(len(marks_of(ground)) + 1):
        for some in itertools.combinations(marks_of(ground), many):
            fewer = with_marks(ground, some)
            good = holds(fewer, Permits(fewer, permits.rows()), one, other, relation)
            if any(set(told) <= set(some) for told in found):
                # what holds by some marks holds by more
                assert good
            elif good:
                found.append(some)
    return found


class Marks(unittest.TestCase):
    def test_of_a_ground(self):
        self.assertEqual(marks_of(GROUND), MARKS)
        self.assertEqual(marks_of(Ground({"x": 0, "p": 2}, ["p"])), [])
        marks_of(GROUND).clear()
        self.assertEqual(marks_of(GROUND), MARKS)

    def test_with_all_and_with_none(self):
        self.assertEqual(with_marks(GROUND, MARKS), GROUND)
        bare = with_marks(GROUND, [])
        self.assertEqual(bare, Ground(GROUND.letters(), GROUND.fixed()))
        self.assertEqual(marks_of(bare), [])

    def test_with_some(self):
        told = with_marks(GROUND, [("fact", 3), ("commutes", "times"), ("fact", 0)])
        self.assertIs(type(told), Ground)
        self.assertEqual(told.letters(), GROUND.letters())
        self.assertEqual(list(told), list(GROUND))
        self.assertEqual(told.fixed(), GROUND.fixed())
        self.assertEqual(told.commuting(), ["times"])
        self.assertEqual(told.facts(), [FACTS[0], FACTS[3]])
        self.assertEqual(with_marks(GROUND, [("commutes", "times"), ("commutes", "plus")]).commuting(), ["plus", "times"])

    def test_the_ground_stays(self):
        with_marks(GROUND, [])
        self.assertEqual((GROUND.commuting(), GROUND.facts()), (["plus", "times"], FACTS))

    def test_facts_of_a_letter_that_no_longer_commutes(self):
        told = with_marks(GROUND, [("fact", 0)])
        self.assertIs(holds(told, Permits(told), plus(A, B), C), True)
        self.assertIs(holds(told, Permits(told), plus(B, A), C), False)

    def test_wrong_marks(self):
        wrong = any_objects() + [("commutes", "x"), ("commutes", "k"), ("commutes", "q"), ("commutes", None), ("commutes", 0),
                                 ("commutes",), ("commutes", "plus", "times"), ("fact", 4), ("fact", -1), ("fact", "0"),
                                 ("fact", True), ("fact", False), ("fact",), ("fact", 0, 0), ("facts", 0), "fact",
                                 ("fact", (0,)), (0, "fact"), ("fact", 10 ** 20), ("commutes", ["plus"]), (["fact"], 0)]
        for thing in wrong:
            with self.assertRaises(BadMark, msg=thing) as caught:
                with_marks(GROUND, [("fact", 1), ("commutes", "plus"), thing, None])
            self.assertEqual(caught.exception.index, 2)

    def test_marks_that_stood_before(self):
        for mark in MARKS:
            for like in (mark, list(mark)):
                with self.assertRaises(BadMark) as caught:
                    with_marks(GROUND, [mark, like, None])
                self.assertEqual(caught.exception.index, 1)

    def test_no_list_of_marks(self):
        for thing in any_objects() + ["fact"]:
            if not isinstance(thing, (list, tuple)):
                with self.assertRaises(BadMark) as caught:
                    with_marks(GROUND, thing)
                self.assertEqual(caught.exception.index, 0)


class Resting(unittest.TestCase):
    def test_on_nothing(self):
        self.assertEqual(resting(GROUND, NONE, X, X), [()])
        self.assertEqual(resting(GROUND, NONE, ("then", plus(X, Y), A), A), [()])

    def test_what_never_holds(self):
        self.assertEqual(resting(GROUND, NONE, X, Y), [])
        self.assertEqual(resting(GROUND, Permits(GROUND, [("fails", "x"), ("fails", "y")]), plus(X, Y), plus(Y, X)), [])
        # k fails for a by a fact, and not at all without it
        self.assertEqual(resting(GROUND, NONE, k(A), A), [])

    def test_on_a_commuting_letter(self):
        self.assertEqual(resting(GROUND, NONE, plus(X, Y), plus(Y, X)), [(("commutes", "plus"),)])
        self.assertEqual(resting(GROUND, NONE, times(X, plus(X, Y)), times(plus(Y, X), X)),
                         [(("commutes", "plus"), ("commutes", "times"))])

    def test_on_a_fact(self):
        self.assertEqual(resting(GROUND, NONE, plus(A, B), C), [(("fact", 0),)])
        self.assertEqual(resting(GROUND, NONE, plus(B, A), C), [(("commutes", "plus"), ("fact", 0))])
        self.assertEqual(resting(GROUND, NONE, k(A), ("fail", "bad")), [(("fact", 1),)])

    def test_a_letter_that_does_not_commute(self):
        ground = Ground({"x": 0, "y": 0, "minus": 2, "plus": 2}, ["minus", "plus"], ["plus"],
                        [("minus", ("a", "b"), ("value", "c"))])
        none = Permits(ground)
        self.assertEqual(resting(ground, none, ("use", "minus", (A, B)), C), [(("fact", 0),)])
        self.assertEqual(resting(ground, none, ("use", "minus", (B, A)), C), [])
        self.assertEqual(resting(ground, none, ("use", "minus", (X, Y)), ("use", "minus", (Y, X))), [])
        self.assertEqual(resting(ground, none, ("use", "minus", (X, X)), ("use", "minus", (X, X))), [()])

    def test_by_two_unlike_sets_of_marks(self):
        # both facts tell the same end, or one is as the other
        ground = Ground({"p": 2, "q": 2}, ["p", "q"], ["p", "q"],
                        [("p", ("a", "b"), ("value", "c")), ("p", ("c", "c"), ("value", "true")), ("q", ("a", "b"), ("value", "true"))])
        p, q = ("use", "p", (A, B)), ("use", "q", (A, B))
        back = ("use", "p", (B, A))
        self.assertEqual(resting(ground, Permits(ground), p, back), [(("commutes", "p"),)])
        self.assertEqual(resting(ground, Permits(ground), ("or", q, ("use", "p", (p, p))), ("value", "true")), [(("fact", 2),)])
        # true, or left out since c is true
        one = ("if", q, A, ("if", ("use", "p", (A, B)), A, B))
        self.assertEqual(resting(ground, Permits(ground), one, A), [(("fact", 0),), (("fact", 2),)])

    def test_the_fewer_marks_first_and_then_by_places(self):
        ground = Ground({"p": 2, "q": 2, "k": 0, "l": 0, "m": 0}, ["p", "q", "k", "l", "m"], ["p", "q"],
                        [("k", (), ("value", "true")), ("l", (), ("value", "true")), ("m", (), ("value", "true"))])
        uses = {letter: ("use", letter, ()) for letter in "klm"}
        # k, or l and m
        one = ("or", ("and", uses["l"], uses["m"]), uses["k"])
        self.assertEqual(resting(ground, Permits(ground), ("not", one), ("value", "false")),
                         [(("fact", 0),), (("fact", 1), ("fact", 2))])
        one = ("or", ("and", uses["k"], uses["m"]), ("and", uses["k"], uses["l"]))
        self.assertEqual(resting(ground, Permits(ground), ("not", one), ("value", "false")),
                         [(("fact", 0), ("fact", 1)), (("fact", 0), ("fact", 2))])

    def test_the_permissions_stay(self):
        # by all marks k may fail, for a fact tells that it does; so it may without this fact, too
        term = ("then", k(X), A)
        self.assertEqual(resting(GROUND, NONE, term, A), [])
        self.assertEqual(resting(GROUND, NONE, ("try", k(X), A), k(X)), [])
        ground = Ground({"x": 0, "k": 1}, ["k"], facts=[("k", ("b",), ("value", "true"))])
        self.assertEqual(resting(ground, Permits(ground), term, A), [()])
        self.assertEqual(resting(ground, Permits(ground, [("fails", "k")]), term, A), [])

    def test_relations(self):
        fails = Permits(GROUND, [("fails", "x"), ("fails", "y")])
        one, other = plus(X, Y), plus(Y, X)
        self.assertEqual(resting(GROUND, fails, one, other, "same"), [])
        self.assertEqual(resting(GROUND, fails, one, other, "faults"), [(("commutes", "plus"),)])
        self.assertEqual(resting(GROUND, fails, one, other, "no worse"), [(("commutes", "plus"),)])
        self.assertEqual(resting(GROUND, NONE, k(A), C, "no worse"), [(("fact", 1),)])
        self.assertEqual(resting(GROUND, NONE, k(A), ("fail", "e"), "faults"), [(("fact", 1),)])

    def test_tuples_of_tuples_in_a_new_list(self):
        told = resting(GROUND, NONE, plus(B, A), C)
        self.assertEqual([type(thing) for thing in (told, told[0], told[0][0])], [list, tuple, tuple])
        told.clear()
        self.assertEqual(len(resting(GROUND, NONE, plus(B, A), C)), 1)


class HeldToAllMarks(unittest.TestCase):
    """What is told is held to all tuples of marks, one by one; so is it that more marks let more hold."""

    def exchanged(self, chance, term):
        if term[0] in ("value", "name", "fail"):
            return term
        if term[0] == "use":
            inner = [self.exchanged(chance, part) for part in term[2]]
            return ("use", term[1], tuple(inner[::-1] if chance.random() < 0.7 else inner))
        if term[0] == "bind":
            return term[:2] + tuple(self.exchanged(chance, part) for part in term[2:])
        return term[:1] + tuple(self.exchanged(chance, part) for part in term[1:])

    def test_by_chance(self):
        chance = random.Random(41)
        many = {}
        for _ in range(500):
            one = random_term(chance, GROUND, chance.randrange(3, 9))
            kinds = [lambda: self.exchanged(chance, one), lambda: random_term(chance, GROUND, chance.randrange(1, 5)), lambda: C]
            other = chance.choices(kinds, (4, 1, 1))[0]()
            permits = Permits(GROUND, [row for row in Permits.full(GROUND) if chance.random() < 0.15])
            relation = chance.choice(RELATIONS)
            told = resting(GROUND, permits, one, other, relation)
            self.assertEqual(told, least_by_all(GROUND, permits, one, other, relation), (one, other, relation))
            for row in told:
                many[len(row)] = many.get(len(row), 0) + 1
        self.assertGreaterEqual(len(many), 2)

    def test_terms_of_values_alone(self):
        chance = random.Random(410)

        def made(depth):
            if depth == 0:
                return chance.choice((A, B, C, X))
            word = chance.choice(("plus", "times", "plus", "times", "k", "or"))
            if word == "or":
                return ("or", made(depth - 1), made(depth - 1))
            if word == "k":
                return k(made(depth - 1))
            return ("use", word, (made(depth - 1), made(depth - 1)))

        several = 0
        for _ in range(300):
            one = made(2)
            other = chance.choice((C, made(1), self.exchanged(chance, one)))
            told = resting(GROUND, NONE, one, other)
            self.assertEqual(told, least_by_all(GROUND, NONE, one, other, "same"), (one, other))
            several += told not in ([], [()])
        self.assertGreater(several, 20)


class WrongThings(unittest.TestCase):
    def test_each_error_in_order(self):
        like = Permits(Ground({"x": 0}))
        with self.assertRaises(UnlikeGrounds):
            resting(GROUND, like, None, None, None)
        # permits of a ground with fewer marks are of another one, too
        with self.assertRaises(UnlikeGrounds):
            resting(GROUND, Permits(with_marks(GROUND, MARKS[1:])), X, X)
        for thing in any_objects():
            with self.assertRaises(BadTerm) as caught:
                resting(GROUND, NONE, ("not", thing), None, None)
            self.assertEqual(caught.exception.path, (0,))
            with self.assertRaises(BadTerm) as caught:
                resting(GROUND, NONE, X, ("and", X, thing), None)
            self.assertEqual(caught.exception.path, (1,))
        for relation in any_objects() + NO_RELATIONS:
            with self.assertRaises(BadRelation) as caught:
                resting(GROUND, NONE, X, Y, relation)
            self.assertIs(caught.exception.relation, relation)


class Conventions(unittest.TestCase):
    def test_lists_and_tuples(self):
        one = ["use", "plus", [["value", "b"], ["value", "a"]]]
        passed = copy.deepcopy(one)
        self.assertEqual(resting(GROUND, NONE, one, ["value", "c"]), resting(GROUND, NONE, plus(B, A), C))
        self.assertEqual(one, passed)
        some = [["fact", 3], ("commutes", "plus"), ["fact", 0]]
        passed = copy.deepcopy(some)
        self.assertEqual(with_marks(GROUND, some), with_marks(GROUND, tuple(tuple(mark) for mark in some)))
        self.assertEqual(some, passed)

    def test_by_name(self):
        self.assertEqual(marks_of(ground=GROUND), MARKS)
        self.assertEqual(with_marks(some=MARKS[:2], ground=GROUND), with_marks(GROUND, MARKS[:2]))
        told = resting(GROUND, NONE, plus(B, A), C, "same")
        self.assertEqual(resting(ground=GROUND, permits=NONE, one=plus(B, A), other=C, relation="same"), told)
        self.assertEqual(resting(relation="same", other=C, one=plus(B, A), permits=NONE, ground=GROUND), told)
        self.assertEqual(resting(GROUND, NONE, plus(B, A), C), told)


class TheLimits(unittest.TestCase):
    def test_many_marks(self):
        letters = {"a": 2, "b": 2, "c": 2, "d": 2, "e": 2, "f": 2, "x": 0}
        ground = Ground(letters, list("abcdef"), list("abcdef"),
                        [(letter, ("p", "q"), ("value", "true")) for letter in "abcdef"])
        p, q = ("value", "p"), ("value", "q")
        self.assertEqual(len(marks_of(ground)), 12)
        uses = [("use", letter, (p, q) if letter in "ab" else (q, p)) for letter in "abcde"]
        # each one is true by its fact, so the first one of the disjunction is enough, or the second one ..
        one = ("not", ("or", uses[0], ("or", uses[1], ("or", uses[2], ("or", uses[3], uses[4])))))
        told = resting(ground, Permits.full(ground).without(("fails", "a")), one, ("value", "false"))
        self.assertEqual(told, [(("fact", 0),)])
        still = [row for row in Permits.full(ground) if row[0] not in ("fails", "stays")]
        told = resting(ground, Permits(ground, still), one, ("value", "false"))
        self.assertEqual(told, [(("fact", 0),), (("fact", 1),)] + [(("commutes", letter), ("fact", "abcdef".index(letter)))
                                                                   for letter in "cde"])

    def test_all_of_them(self):
        letters = {"a": 2, "b": 2, "c": 2, "d": 2, "e": 2, "f": 2, "x": 0}
        ground = Ground(letters, list("abcdef"), list("abcdef"),
                        [(letter, ("p", "q"), ("value", "true")) for letter in "abcdef"])
        q, p = ("value", "q"), ("value", "p")
        uses = [("use", letter, (q, p)) for letter in "abcdef"]
        one = ("and", ("and", uses[0], uses[1]), ("and", uses[2], ("and", uses[3], uses[4])))
        told = resting(ground, Permits(ground), one, ("value", "true"))
        self.assertEqual(told, [tuple(mark for mark in marks_of(ground) if mark not in (("commutes", "f"), ("fact", 5)))])


if __name__ == "__main__":
    unittest.main()
