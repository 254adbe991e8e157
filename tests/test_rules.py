"""Points 17 to 21: ways, relations, what parts two terms, and classes."""

import random
import unittest

from any_objects import any_objects
from freeworldrules.errors import BadRelation, BadTerm, UnlikeGrounds
from freeworldrules.grounds import Ground
from freeworldrules.permits import Permits
from freeworldrules.rules import classes, holds, is_parting, parting, ways, ways_of_two
from freeworldrules.runs import both, questions, run
from model import all_permits, model_related, model_ways, random_term

GROUND = Ground({"x": 0, "y": 0, "z": 1, "plus": 2}, ["plus"], ["plus"],
                [("plus", ("a", "b"), ("value", "false")), ("plus", ("b", "b"), ("fail", "same"))])

X, Y = ("use", "x", ()), ("use", "y", ())
A, B, T, F = ("value", "a"), ("value", "b"), ("value", "true"), ("value", "false")
NO = Permits(GROUND)
FULL = Permits.full(GROUND)
RELATIONS = ("same", "faults", "no worse")

# relations that are none, beside what any_objects() tells
NO_RELATIONS = ["Same", "same ", "no  worse", "noworse", "worse", "fault", "SAME", ["same"], ("same",), "sam"]


def then(*terms):
    return terms[0] if len(terms) == 1 else ("then", terms[0], then(*terms[1:]))


def plus(one, other):
    return ("use", "plus", (one, other))


def permits(*rows):
    return Permits(GROUND, rows)


def bits_in_order(many):
    return [()] if many == 0 else [(bit,) + bits for bit in (0, 1) for bits in bits_in_order(many - 1)]


class Ways(unittest.TestCase):
    def test_all_ways_of_a_term(self):
        within = permits(("stays", "x"), ("fails", "x"), ("writes", "x"))
        left = (("x", (1,)),)
        self.assertEqual(ways(GROUND, within, ("if", X, A, B)), [
            ((0, 0, 0), ("value", A, left)),
            ((0, 0, 1), ("value", B, left)),
            ((0, 1), ("fails", ("failed", "x", 1), left)),
            ((1,), ("stays", None, ()))])

    def test_no_questions(self):
        self.assertEqual(ways(GROUND, FULL, A), [((), ("value", A, ()))])
        self.assertEqual(ways(GROUND, NO, X), [((), ("value", ("gave", "x", 1), ()))])
        self.assertEqual(ways_of_two(GROUND, FULL, A, ("fail", "e")), [((), ("value", A, ()), ("fails", ("fail", "e"), ()))])

    def test_of_two(self):
        within = permits(("fails", "x"), ("fails", "y"))
        x, y = ("value", ("gave", "x", 1), ()), ("value", ("gave", "y", 1), ())
        bad_x, bad_y = ("fails", ("failed", "x", 1), ()), ("fails", ("failed", "y", 1), ())
        self.assertEqual(ways_of_two(GROUND, within, X, then(X, Y)),
                         [((0, 0), x, y), ((0, 1), x, bad_y), ((1,), bad_x, bad_x)])
        self.assertEqual(ways_of_two(GROUND, within, then(X, Y), X),
                         [((0, 0), y, x), ((0, 1), bad_y, x), ((1,), bad_x, bad_x)])

    def test_just_as_many_bits_as_questions_ascending(self):
        chance = random.Random(17)
        for _ in range(150):
            one, other = [random_term(chance, GROUND, chance.randrange(1, 12)) for _ in range(2)]
            within = permits(*[row for row in FULL if chance.random() < 0.4])
            told = ways(GROUND, within, one)
            self.assertEqual([bits for bits, _ in told], sorted(set(bits for bits, _ in told)))
            for bits, end in told:
                self.assertEqual(len(questions(GROUND, within, one, bits)), len(bits))
                self.assertEqual(run(GROUND, within, one, bits), end)
            self.assertEqual(told, [(bits, *ends) for bits, ends in model_ways(GROUND, within, (one,))])
            self.assertEqual(ways_of_two(GROUND, within, one, other),
                             [(bits, *ends) for bits, ends in model_ways(GROUND, within, (one, other))])

    def test_kinds(self):
        told = ways_of_two(GROUND, FULL, X, Y)
        self.assertEqual((type(told), {type(row) for row in told}, {type(row[0]) for row in told}), (list, {tuple}, {tuple}))
        told.clear()
        self.assertNotEqual(ways_of_two(GROUND, FULL, X, Y), [])


class Relations(unittest.TestCase):
    """Ends without questions, so that there is one way alone."""

    def related(self, one, other, same, faults, no_worse, within=NO):
        told = [holds(GROUND, within, one, other, relation) for relation in RELATIONS]
        self.assertEqual(told, [same, faults, no_worse])
        self.assertIs(holds(GROUND, within, one, other), same)

    def test_values(self):
        self.related(A, A, True, True, True)
        self.related(A, B, False, False, False)
        self.related(X, X, True, True, True)
        self.related(X, A, False, False, False)
        self.related(then(X, A), then(Y, A), True, True, True)
        self.related(then(X, A), then(Y, A), False, False, False, permits(("writes", "x")))

    def test_failures(self):
        one, other = ("fail", "e"), ("fail", "f")
        self.related(one, one, True, True, True)
        self.related(one, other, False, True, True)
        self.related(then(X, one), then(X, other), False, True, True, permits(("writes", "x")))
        self.related(then(X, one), then(Y, other), False, False, True, permits(("writes", "x")))
        self.related(then(X, one), other, False, False, True, permits(("writes", "x")))

    def test_a_value_and_a_failure(self):
        self.related(A, ("fail", "e"), False, False, False)
        self.related(("fail", "e"), A, False, False, True)

    def test_without_end(self):
        within = permits(("stays", "x"), ("stays", "y"))
        self.assertEqual([holds(GROUND, within, X, A, relation) for relation in RELATIONS], [False] * 3)
        self.assertEqual([holds(GROUND, within, then(X, A), A, relation) for relation in RELATIONS], [False, False, True])
        self.assertEqual([holds(GROUND, within, A, then(X, A), relation) for relation in RELATIONS], [False] * 3)
        self.assertEqual([holds(GROUND, within, then(X, Y, A), then(Y, X, A), relation) for relation in RELATIONS],
                         [True] * 3)

    def test_all_ways_count(self):
        term = ("if", X, A, ("if", Y, A, B))
        self.assertIs(holds(GROUND, NO, term, A), False)
        self.assertIs(holds(GROUND, NO, ("if", X, A, ("if", Y, A, A)), A), True)

    def test_shares_and_shows(self):
        one, other = then(X, Y, A), then(Y, X, A)
        for rows, end in (((("writes", "x"), ("writes", "y")), True), ((("shares", "x", "y"),), False),
                          # what y sees of x is seen by nobody else if y sets nothing
                          ((("shows", "x", "y"),), True), ((("shows", "x", "y"), ("writes", "y")), False),
                          ((("shows", "y", "x"), ("writes", "x")), False), ((("shows", "y", "x"), ("fails", "x")), False),
                          ((("shows", "x", "x"), ("shows", "y", "y"), ("stays", "x"), ("stays", "y")), True),
                          ((("fails", "x"),), True), ((("fails", "x"), ("fails", "y")), False),
                          ((("fails", "x"), ("stays", "y")), False), ((("fails", "x"), ("writes", "y")), False)):
            self.assertIs(holds(GROUND, permits(*rows), one, other), end, rows)

    def test_shows_without_a_letter_that_writes_it_again(self):
        # y shows itself nothing, so its value is another one behind x only by what x shows it
        self.assertIs(holds(GROUND, permits(("shows", "x", "y")), then(X, Y), Y), False)
        self.assertIs(holds(GROUND, permits(("shows", "x", "x")), then(X, X), X), False)
        self.assertIs(holds(GROUND, permits(("writes", "x")), then(X, X), X), True)

    def test_commuting_letters(self):
        self.assertIs(holds(GROUND, FULL, plus(A, X), plus(X, A)), True)
        self.assertIs(holds(GROUND, FULL, plus(X, Y), plus(Y, X)), False)
        self.assertIs(holds(GROUND, NO, plus(X, Y), plus(Y, X)), True)
        self.assertIs(holds(Ground({"p": 2, "x": 0}, ["p"]), Permits(Ground({"p": 2, "x": 0}, ["p"])),
                            ("use", "p", (X, A)), ("use", "p", (A, X))), False)

    def test_facts(self):
        self.assertIs(holds(GROUND, FULL, plus(B, A), F), True)
        self.assertIs(holds(GROUND, FULL, plus(B, B), ("fail", "same")), True)
        self.assertIs(holds(GROUND, FULL, plus(B, B), A, "no worse"), True)
        self.assertIs(holds(GROUND, FULL, plus(A, A), F), False)


class Parting(unittest.TestCase):
    def test_none_if_it_holds(self):
        self.assertIsNone(parting(GROUND, NO, plus(X, Y), plus(Y, X)))
        self.assertIsNone(parting(GROUND, FULL, ("fail", "e"), A, "no worse"))
        self.assertIsNone(parting(GROUND, FULL, ("fail", "e"), ("fail", "f"), relation="faults"))

    def test_no_bits(self):
        for bits in (parting(GROUND, NO, A, B), parting(GROUND, FULL, X, Y), parting(GROUND, FULL, then(X, Y), Y)):
            self.assertEqual(bits, ())

    def test_ending_with_a_one(self):
        within = permits(("fails", "x"), ("fails", "y"))
        self.assertEqual(parting(GROUND, within, then(X, A), A), (1,))
        self.assertEqual(parting(GROUND, within, then(X, Y, A), then(X, A)), (0, 1))

    def test_the_fewest_ones(self):
        # both have to fail, and the one way asks more questions than the other
        within = permits(("fails", "x"), ("fails", "y"))
        self.assertEqual(parting(GROUND, within, then(X, Y, A), then(Y, X, A)), (1, 1))
        term = ("if", X, A, ("if", Y, B, A))
        self.assertEqual(parting(GROUND, NO, term, A), (1,))
        # without ones it is alike
        within = permits(("fails", "x"), ("stays", "x"))
        self.assertEqual(parting(GROUND, within, ("try", X, ("value", "a")), ("try", X, B)), (0, 1))
        self.assertEqual(parting(GROUND, within, ("try", then(X, A), B), then(X, A)), (0, 1))

    def test_then_the_fewest_bits(self):
        within = permits(("fails", "x"), ("fails", "y"), ("stays", "x"))
        self.assertEqual(parting(GROUND, within, then(X, Y, A), A), (1,))
        self.assertEqual(parting(GROUND, within, then(Y, X, A), then(X, A)), (1,))

    def test_the_least_of_all(self):
        chance = random.Random(19)
        for _ in range(200):
            one, other = [random_term(chance, GROUND, chance.randrange(1, 11)) for _ in range(2)]
            relation = chance.choice(RELATIONS)
            within = permits(*[row for row in FULL if chance.random() < 0.4])
            found = []
            for bits, ends in model_ways(GROUND, within, (one, other)):
                while bits and bits[-1] == 0:
                    bits = bits[:-1]
                if not model_related(relation, *ends):
                    found.append((sum(bits), len(bits), bits))
            told = parting(GROUND, within, one, other, relation)
            self.assertEqual(told, min(found)[2] if found else None)
            self.assertIs(holds(GROUND, within, one, other, relation), not found)

    def test_a_tuple(self):
        self.assertIs(type(parting(GROUND, FULL, then(X, A), A)), tuple)


class IsParting(unittest.TestCase):
    within = permits(("fails", "x"), ("fails", "y"))

    def test_bits_by_which_it_fails(self):
        one, other = then(X, Y, A), then(Y, X, A)
        for bits, end in (((1, 1), True), ([1, 1], True), ((0, 1), False), ((1, 0), False), ((0, 0), False), ((), False),
                          ((1,), False), ((1, 1, 0), False), ((1, 1, 1), False)):
            self.assertIs(is_parting(GROUND, self.within, one, other, "same", bits), end, bits)
            self.assertIs(is_parting(GROUND, self.within, one, other, "faults", bits), False)

    def test_further_questions_may_stand_behind(self):
        term = ("try", X, Y)
        self.assertIs(is_parting(GROUND, self.within, term, X, "same", (1,)), True)
        self.assertIs(is_parting(GROUND, self.within, term, X, "same", (1, 0)), True)
        self.assertIs(is_parting(GROUND, self.within, term, X, "same", (1, 1)), True)
        self.assertIs(is_parting(GROUND, self.within, term, X, "same", (1, 0, 0)), False)
        self.assertIs(is_parting(GROUND, self.within, A, B, "same", ()), True)
        self.assertIs(is_parting(GROUND, self.within, A, B, "same", (0,)), False)

    def test_just_all_bits(self):
        chance = random.Random(20)
        for _ in range(60):
            one, other = [random_term(chance, GROUND, chance.randrange(1, 7)) for _ in range(2)]
            relation = chance.choice(RELATIONS)
            for bits in sum([bits_in_order(many) for many in range(6)], []):
                ends = both(GROUND, self.within, one, other, bits)
                used = max(len(row[0]) for row in ways_of_two(GROUND, self.within, one, other)
                           if row[0][:len(bits)] == bits[:len(row[0])])
                told = is_parting(GROUND, self.within, one, other, relation, bits)
                self.assertIs(told, used >= len(bits) and not model_related(relation, *ends))

    def test_any_object(self):
        for thing in any_objects():
            told = is_parting(GROUND, self.within, A, B, "same", thing)
            self.assertIs(told, thing in ([], ()))
            self.assertIs(is_parting(GROUND, self.within, then(X, A), A, "same", [thing]), thing == 1 and type(thing) is int)
            self.assertIs(is_parting(GROUND, FULL, then(X, A), A, "same", [0, thing]), type(thing) is int and thing in (0, 1))


class Classes(unittest.TestCase):
    def test_in_the_order_of_their_first_ones(self):
        terms = [A, plus(X, Y), B, plus(Y, X), then(X, A), X, ["then", ["use", "y", []], A], B]
        self.assertEqual(classes(GROUND, NO, terms), [(0, 4, 6), (1, 3), (2, 7), (5,)])
        self.assertEqual(classes(GROUND, permits(("writes", "x"), ("shows", "x", "y")), terms),
                         [(0, 6), (1,), (2, 7), (3,), (4,), (5,)])
        self.assertEqual(classes(GROUND, permits(("writes", "x"), ("shows", "x", "y")), tuple(terms[::-1])),
                         [(0, 5), (1, 7), (2,), (3,), (4,), (6,)])

    def test_none_and_one(self):
        self.assertEqual(classes(GROUND, FULL, []), [])
        self.assertEqual(classes(GROUND, FULL, ()), [])
        self.assertEqual(classes(GROUND, FULL, [X]), [(0,)])

    def test_terms_alike_by_chance(self):
        chance = random.Random(21)
        terms = [random_term(chance, GROUND, chance.randrange(1, 6)) for _ in range(25)]
        for within in (NO, FULL, permits(("fails", "x"), ("writes", "y"))):
            told = classes(GROUND, within, terms)
            self.assertEqual(sorted(sum(told, ())), list(range(25)))
            at = {index: row for row in told for index in row}
            for one in range(25):
                for other in range(25):
                    self.assertIs(holds(GROUND, within, terms[one], terms[other]), at[one] == at[other])

    def test_kinds(self):
        told = classes(GROUND, FULL, [A, A])
        self.assertEqual((type(told), type(told[0])), (list, tuple))

    def bad_path(self, terms):
        with self.assertRaises(BadTerm) as caught:
            classes(GROUND, FULL, terms)
        return caught.exception.path

    def test_errors(self):
        for thing in any_objects():
            if not isinstance(thing, (list, tuple)):
                self.assertEqual(self.bad_path(thing), ())
            self.assertEqual(self.bad_path([A, X, thing]), (2,))
            self.assertEqual(self.bad_path((A, ("and", X, ("not", thing)), thing)), (1, 1, 0))
        with self.assertRaises(UnlikeGrounds):
            classes(GROUND, Permits(Ground({"x": 0})), 3)


class ItHolds(unittest.TestCase):
    """Point 21."""

    def test_with_fewer_permits_whatever_holds_still_holds(self):
        ground = Ground({"x": 0, "y": 0})
        every = all_permits(ground)
        for one, other in ((then(X, Y), then(Y, X)), (then(X, A), A), (then(X, X), X), (then(X, Y, X), then(Y, X)),
                           (("try", X, Y), ("try", Y, X)), (("last", X, Y), ("last", X, ("try", Y, A)))):
            for relation in RELATIONS:
                good = [within for within in every if holds(ground, within, one, other, relation)]
                rows = [row for within in good for row in within.rows()]
                for row in dict.fromkeys(rows):
                    for within in good:
                        if row in within:
                            self.assertIn(within.without(row), good)

    def test_from_one_term_to_the_next(self):
        chance = random.Random(211)
        for _ in range(30):
            within = permits(*[row for row in FULL if chance.random() < 0.3])
            terms = [random_term(chance, GROUND, chance.randrange(1, 7), (), 1) for _ in range(9)]
            for relation in RELATIONS:
                told = {(i, j) for i in range(9) for j in range(9)
                        if holds(GROUND, within, terms[i], terms[j], relation)}
                for i, j in told:
                    self.assertEqual([(i, k) for j2, k in told if j2 == j and (i, k) not in told], [])

    def test_same_for_terms_that_end_with_values_alone(self):
        chance = random.Random(212)
        within = permits(("writes", "x"), ("shows", "y", "x"))
        for _ in range(150):
            one, other = [random_term(chance, Ground({"x": 0, "y": 0}), chance.randrange(1, 7)) for _ in range(2)]
            if all(end[0] == "value" for term in (one, other) for _, end in ways(GROUND, within, term)):
                same = holds(GROUND, within, one, other)
                self.assertIs(holds(GROUND, within, one, other, "faults"), same)
                both_ways = [holds(GROUND, within, *pair, "no worse") for pair in ((one, other), (other, one))]
                self.assertIs(all(both_ways), same)


class Errors(unittest.TestCase):
    def calls(self, within, one, other, relation):
        return [lambda: holds(GROUND, within, one, other, relation), lambda: parting(GROUND, within, one, other, relation),
                lambda: is_parting(GROUND, within, one, other, relation, ()),
                lambda: is_parting(GROUND, within, one, other, relation, 3)]

    def test_bad_relations(self):
        for relation in any_objects() + NO_RELATIONS:
            for call in self.calls(FULL, A, A, relation):
                with self.assertRaises(BadRelation) as caught:
                    call()
                self.assertIs(caught.exception.relation, relation)

    def test_bad_terms_ahead_of_relations(self):
        for thing in any_objects():
            for one, other in ((("not", thing), 3), (A, ("not", thing))):
                for call in self.calls(NO, one, other, 3) + [lambda: ways_of_two(GROUND, NO, one, other)]:
                    with self.assertRaises(BadTerm) as caught:
                        call()
                    self.assertEqual(caught.exception.path, (0,))
            with self.assertRaises(BadTerm) as caught:
                ways(GROUND, NO, ("and", A, thing))
            self.assertEqual(caught.exception.path, (1,))

    def test_unlike_grounds_first_of_all(self):
        within = Permits(Ground({"x": 0, "y": 0, "z": 1, "plus": 2}, ["plus"], ["plus"]))
        for call in self.calls(within, 3, 3, 3) + [lambda: ways(GROUND, within, 3),
                                                   lambda: ways_of_two(GROUND, within, 3, 3)]:
            with self.assertRaises(UnlikeGrounds):
                call()


if __name__ == "__main__":
    unittest.main()
