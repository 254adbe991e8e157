"""Points 14, 15 and 16: runs in the free world."""

import random
import unittest

from any_objects import any_objects
from freeworldrules.errors import BadBits, BadTerm, UnlikeGrounds
from freeworldrules.grounds import Ground
from freeworldrules.permits import Permits
from freeworldrules.runs import both, evaluations, questions, run
from model import Model, random_term

GROUND = Ground({"x": 0, "y": 0, "z": 1, "plus": 2, "minus": 2, "zero": 0}, ["plus", "minus", "zero"], ["plus"],
                [("plus", ("a", "b"), ("value", "c")), ("minus", ("a", "b"), ("value", "false")),
                 ("minus", ("b", "b"), ("fail", "same")), ("zero", (), ("value", "nought"))])

X, Y, ZERO = ("use", "x", ()), ("use", "y", ()), ("use", "zero", ())
A, B, T, F = ("value", "a"), ("value", "b"), ("value", "true"), ("value", "false")
NO = Permits(GROUND)
FULL = Permits.full(GROUND)


def then(*terms):
    return terms[0] if len(terms) == 1 else ("then", terms[0], then(*terms[1:]))


def z(term):
    return ("use", "z", (term,))


def plus(one, other):
    return ("use", "plus", (one, other))


def minus(one, other):
    return ("use", "minus", (one, other))


def gave(letter, number=1):
    return ("gave", letter, number)


def value(of, *left):
    return ("value", of, left)


def permits(*rows):
    return Permits(GROUND, rows)


class HowTermsEnd(unittest.TestCase):
    """Point 7 says what a term is; without permissions all letters give values."""

    def ends(self, term, end, bits=(), within=NO):
        self.assertEqual(run(GROUND, within, term, bits), end)

    def test_values_and_failures(self):
        self.ends(A, value(A))
        self.ends(F, value(F))
        self.ends(("fail", "e"), ("fails", ("fail", "e"), ()))

    def test_uses(self):
        self.ends(X, value(gave("x")))
        self.ends(z(X), value(gave("z")))
        self.ends(minus(X, z(A)), value(gave("minus")))

    def test_parts_from_left_to_right(self):
        self.ends(minus(("fail", "e"), ("fail", "f")), ("fails", ("fail", "e"), ()))
        self.ends(minus(A, ("fail", "f")), ("fails", ("fail", "f"), ()))
        told = evaluations(GROUND, NO, minus(z(X), plus(Y, z(A))))
        self.assertEqual([row[0] for row in told], ["x", "z", "y", "z", "plus", "minus"])

    def test_if(self):
        self.ends(("if", T, A, B), value(A))
        self.ends(("if", A, A, B), value(A))
        self.ends(("if", F, A, B), value(B))
        self.ends(("if", X, A, B), value(A))
        self.ends(("if", X, A, B), value(B), (1,))
        self.ends(("if", ("fail", "e"), A, B), ("fails", ("fail", "e"), ()))

    def test_and_or(self):
        for one in (A, T, F):
            self.ends(("and", one, B), value(F if one == F else B))
            self.ends(("or", one, B), value(B if one == F else one))
        self.ends(("and", X, B), value(B))
        self.ends(("and", X, B), value(gave("x")), (1,))
        self.ends(("or", X, B), value(gave("x")))
        self.ends(("or", X, B), value(B), (1,))
        self.ends(("and", T, X), value(gave("x")))
        for word in ("and", "or"):
            self.ends((word, ("fail", "e"), B), ("fails", ("fail", "e"), ()))
        self.ends(("and", F, ("fail", "e")), value(F))
        self.ends(("or", A, ("fail", "e")), value(A))

    def test_not(self):
        for one, end in ((A, F), (T, F), (F, T)):
            self.ends(("not", one), value(end))
        self.ends(("not", X), value(F))
        self.ends(("not", X), value(T), (1,))
        self.ends(("not", ("fail", "e")), ("fails", ("fail", "e"), ()))

    def test_then_and_bind(self):
        self.ends(then(A, B), value(B))
        self.ends(then(("fail", "e"), B), ("fails", ("fail", "e"), ()))
        self.ends(("bind", "v", A, plus(B, ("name", "v"))), value(("value", "c")))
        self.ends(("bind", "v", ("fail", "e"), A), ("fails", ("fail", "e"), ()))

    def test_the_innermost_bind_counts(self):
        term = ("bind", "v", A, ("bind", "v", X, ("name", "v")))
        self.ends(term, value(gave("x")))
        self.ends(("bind", "v", A, then(("bind", "v", X, ("name", "v")), ("name", "v"))), value(A))
        self.ends(("bind", "v", A, ("bind", "v", ("not", ("name", "v")), ("name", "v"))), value(F))
        self.ends(("bind", "v", A, ("bind", "w", B, minus(("name", "v"), ("name", "w")))), value(F))

    def test_a_name_is_evaluated_once(self):
        term = ("bind", "v", X, minus(("name", "v"), ("name", "v")))
        told = evaluations(GROUND, FULL, term)
        self.assertEqual([row[0] for row in told], ["x", "minus"])
        self.assertEqual(told[1][2], (gave("x"), gave("x")))

    def test_try(self):
        self.ends(("try", A, B), value(A))
        self.ends(("try", ("fail", "e"), B), value(B))
        self.ends(("try", ("fail", "e"), ("fail", "f")), ("fails", ("fail", "f"), ()))
        self.ends(("try", then(X, ("fail", "e")), Y), value(gave("y"), ("x", (1,)), ("y", (1,))),
                  within=permits(("writes", "x"), ("writes", "y")))
        self.ends(("try", X, B), ("stays", None, ()), (1,), permits(("stays", "x")))

    def test_last(self):
        self.ends(("last", A, B), value(A))
        self.ends(("last", ("fail", "e"), B), ("fails", ("fail", "e"), ()))
        self.ends(("last", A, ("fail", "f")), ("fails", ("fail", "f"), ()))
        self.ends(("last", ("fail", "e"), ("fail", "f")), ("fails", ("fail", "f"), ()))
        writes = permits(("writes", "x"), ("writes", "y"), ("stays", "x"), ("stays", "y"))
        self.ends(("last", X, Y), value(gave("x"), ("x", (1,)), ("y", (1,))), within=writes)
        self.ends(("last", then(X, ("fail", "e")), Y), ("fails", ("fail", "e"), (("x", (1,)), ("y", (1,)))),
                  within=writes)
        self.ends(("last", X, Y), ("stays", None, ()), (1,), writes)
        self.ends(("last", X, Y), ("stays", None, ()), (0, 1), writes)
        self.assertEqual([row[0] for row in evaluations(GROUND, writes, ("last", X, Y), (1,))], ["x"])


class Questions(unittest.TestCase):
    def asked(self, term, within=FULL, bits=()):
        return questions(GROUND, within, term, bits)

    def test_stays_then_fails(self):
        self.assertEqual(self.asked(X), [("stays", "x", 1), ("fails", "x", 1)])
        self.assertEqual(self.asked(X, permits(("fails", "x"))), [("fails", "x", 1)])
        self.assertEqual(self.asked(X, permits(("stays", "x"), ("fails", "y"))), [("stays", "x", 1)])
        self.assertEqual(self.asked(X, NO), [])
        self.assertEqual(self.asked(X, FULL, (1,)), [("stays", "x", 1)])

    def test_truth_only_where_it_is_needed(self):
        for term in (("if", X, A, B), ("and", X, A), ("or", X, A), ("not", X)):
            self.assertEqual(self.asked(term, NO), [("true", "x", 1)])
        for term in (("if", A, X, X), ("and", A, X), ("or", F, X), then(X, A), ("bind", "v", X, A), ("try", X, A),
                     ("last", X, X), z(X), ("if", F, A, X)):
            self.assertNotIn(("true", "x", 1), self.asked(term))

    def test_no_truth_of_names_is_asked(self):
        self.assertEqual(self.asked(("if", A, ("not", F), B)), [])
        self.assertEqual(self.asked(("if", plus(A, B), A, B)), [])

    def test_the_same_question_once(self):
        self.assertEqual(self.asked(then(("not", X), ("not", X)), NO), [("true", "x", 1)])
        within = permits(("fails", "x"))
        self.assertEqual(self.asked(("try", X, X), within, (1,)), [("fails", "x", 1)])
        self.assertEqual(run(GROUND, within, ("try", X, X), (1,)), ("fails", ("failed", "x", 1), ()))

    def test_the_order_and_the_answers(self):
        term = ("if", X, ("not", Y), z(B))
        within = permits(("fails", "x"), ("stays", "y"), ("fails", "z"))
        self.assertEqual(self.asked(term, within), [("fails", "x", 1), ("true", "x", 1), ("stays", "y", 1),
                                                    ("true", "y", 1)])
        self.assertEqual(self.asked(term, within, (0, 1)), [("fails", "x", 1), ("true", "x", 1), ("fails", "z", 1)])
        self.assertEqual(run(GROUND, within, term, (1,)), ("fails", ("failed", "x", 1), ()))
        self.assertEqual(run(GROUND, within, term, (0, 0, 1)), ("stays", None, ()))
        self.assertEqual(run(GROUND, within, term, (0, 0, 0, 1)), value(T))
        self.assertEqual(run(GROUND, within, term, (0, 1, 1)), ("fails", ("failed", "z", 1), ()))

    def test_fewer_bits_and_more(self):
        term = ("if", X, Y, A)
        for bits in ((), (0,), (0, 0), (0, 0, 0, 0), (0,) * 50):
            self.assertEqual(run(GROUND, FULL, term, bits), run(GROUND, FULL, term))
            self.assertEqual(len(self.asked(term, FULL, bits)), 5)
        self.assertEqual(run(GROUND, FULL, term, (1, 1, 1)), ("stays", None, ()))
        self.assertEqual(run(GROUND, FULL, A, (1, 0, 1)), value(A))

    def test_bits_as_a_list(self):
        self.assertEqual(run(GROUND, FULL, ["not", ["use", "x", []]], [0, 0, 1]), run(GROUND, FULL, ("not", X), (0, 0, 1)))

    def test_fixed_letters_are_asked_too(self):
        self.assertEqual(self.asked(plus(A, A)), [("stays", "plus", 1), ("fails", "plus", 1)])
        self.assertEqual(run(GROUND, FULL, plus(A, A), (0, 1)), ("fails", ("failed", "plus", 1), ()))

    def test_a_letter_of_which_a_fact_tells_a_failure_may_always_fail(self):
        self.assertEqual(self.asked(minus(A, A), NO), [("fails", "minus", 1)])


class Numbers(unittest.TestCase):
    def numbers(self, term, within=NO, bits=()):
        return [row[:2] for row in evaluations(GROUND, within, term, bits)]

    def test_each_letter_from_1(self):
        self.assertEqual(self.numbers(then(z(A), z(B), X, z(A), Y, z(X))),
                         [("z", 1), ("z", 2), ("x", 1), ("z", 1), ("y", 1), ("x", 1), ("z", 3)])

    def test_the_same_values(self):
        self.assertEqual(self.numbers(then(minus(A, A), minus(A, T), minus(T, A), minus(A, A)), NO),
                         [("minus", 1), ("minus", 2), ("minus", 3), ("minus", 1)])

    def test_commuting_letters_in_either_order(self):
        term = then(plus(A, X), plus(X, A), plus(X, Y), plus(Y, X), plus(A, T), plus(T, A))
        self.assertEqual([row for row in self.numbers(term) if row[0] == "plus"],
                         [("plus", 1), ("plus", 1), ("plus", 2), ("plus", 2), ("plus", 3), ("plus", 3)])
        told = [row[2] for row in evaluations(GROUND, NO, term) if row[0] == "plus"]
        self.assertEqual(told[:2], [(A, gave("x")), (gave("x"), A)])

    def test_the_same_values_with_another_view(self):
        shows = permits(("shows", "y", "x"))
        self.assertEqual(self.numbers(then(X, Y, X, Y, X), shows), [("x", 1), ("y", 1), ("x", 2), ("y", 1), ("x", 2)])
        self.assertEqual(self.numbers(then(X, Y, X), permits(("shows", "x", "y"))), [("x", 1), ("y", 1), ("x", 1)])

    def test_a_letter_that_shows_itself(self):
        shows = permits(("shows", "x", "x"))
        self.assertEqual(self.numbers(then(X, X, X), shows), [("x", 1), ("x", 2), ("x", 3)])
        self.assertEqual([row[3] for row in evaluations(GROUND, shows, then(X, X, X))], [((),), ((1,),), ((1, 2),)])

    def test_what_failed_was_evaluated_too(self):
        within = permits(("shows", "y", "x"), ("fails", "y"))
        term = then(X, ("try", Y, A), X)
        self.assertEqual(self.numbers(term, within, (1,)), [("x", 1), ("y", 1), ("x", 2)])
        self.assertEqual(run(GROUND, within, Y, (1,)), ("fails", ("failed", "y", 1), (("y", (1,)),)))

    def test_fixed_letters_have_no_view(self):
        told = evaluations(GROUND, FULL, then(X, minus(A, A), X, minus(A, A)))
        self.assertEqual([row[1:] for row in told if row[0] == "minus"], [(1, (A, A), ())] * 2)


class Views(unittest.TestCase):
    def views(self, term, within, letter):
        return [row[3] for row in evaluations(GROUND, within, term) if row[0] == letter]

    def test_by_the_last_occurrence(self):
        term = then(z(A), z(B), X, z(A), X, z(A), X, z(B), X)
        self.assertEqual(self.views(term, permits(("shows", "z", "x")), "x"), [((1, 2),), ((2, 1),), ((2, 1),), ((1, 2),)])

    def test_a_row_for_each_letter_in_order(self):
        term = then(z(A), Y, X)
        shows = [("shows", "z", "x"), ("shows", "y", "x"), ("shows", "x", "x")]
        self.assertEqual(self.views(term, permits(*shows), "x"), [((), (1,), (1,))])
        self.assertEqual(self.views(term, permits(*shows[:2]), "x"), [((1,), (1,))])
        self.assertEqual(self.views(term, permits(shows[0]), "x"), [((1,),)])
        self.assertEqual(self.views(X, permits(shows[0]), "x"), [((),)])
        self.assertEqual(self.views(term, NO, "x"), [()])

    def test_pairs_of_those_that_share(self):
        rows = [("shows", "z", "x"), ("shows", "y", "x"), ("shares", "z", "y")]
        one, other = then(z(A), Y, X), then(Y, z(A), X)
        self.assertEqual(self.views(one, permits(*rows), "x"), [((1,), (1,), (("z", 1), ("y", 1)))])
        self.assertEqual(self.views(other, permits(*rows), "x"), [((1,), (1,), (("y", 1), ("z", 1)))])
        for row in rows:
            told = self.views(one, permits(*[kept for kept in rows if kept != row]), "x")
            self.assertEqual(told, [((1,), (1,))] if row == rows[2] else [((1,),)])

    def test_pairs_by_the_last_occurrence(self):
        rows = [("shows", "z", "x"), ("shows", "y", "x"), ("shares", "y", "z")]
        term = then(z(A), Y, z(B), Y, z(A), X)
        self.assertEqual(self.views(term, permits(*rows), "x"), [((1,), (2, 1), (("z", 2), ("y", 1), ("z", 1)))])

    def test_pairs_behind_the_letters_in_order(self):
        told = self.views(then(X, Y, z(A), X), FULL, "x")
        x, y, w = ("x", 1), ("y", 1), ("z", 1)
        self.assertEqual(told[1], ((1,), (1,), (1,), (x, y), (x, w), (y, w)))

    def test_pairs_keep_evaluations_apart(self):
        rows = [("shows", "z", "x"), ("shows", "y", "x")]
        term = then(z(A), Y, X, z(A), X)
        for more, numbers in (((), [1, 1]), ((("shares", "y", "z"),), [1, 2])):
            told = evaluations(GROUND, permits(*rows, *more), term)
            self.assertEqual([row[1] for row in told if row[0] == "x"], numbers)


class Facts(unittest.TestCase):
    def test_told_ends_are_no_evaluations(self):
        for term, end in ((plus(A, B), value(("value", "c"))), (plus(B, A), value(("value", "c"))),
                          (minus(A, B), value(F)), (ZERO, value(("value", "nought"))),
                          (minus(B, B), ("fails", ("fail", "same"), ()))):
            for within in (NO, FULL):
                self.assertEqual(run(GROUND, within, term), end)
                self.assertEqual(run(GROUND, within, term, (1, 1)), end)
                self.assertEqual(evaluations(GROUND, within, term), [])
                self.assertEqual(questions(GROUND, within, term), [])

    def test_for_a_commuting_letter_alone_in_either_order(self):
        self.assertEqual(run(GROUND, NO, minus(B, A)), value(gave("minus")))

    def test_told_in_either_order(self):
        facts = [("plus", ("b", "a"), ("value", "c")), ("minus", ("b", "a"), ("value", "c")), ("plus", ("b", "c"), ("fail", "e"))]
        ground = Ground(GROUND.letters(), GROUND.fixed(), ["plus"], facts)
        for term, end in ((plus(A, B), value(("value", "c"))), (plus(B, A), value(("value", "c"))),
                          (minus(B, A), value(("value", "c"))), (minus(A, B), value(gave("minus"))),
                          (plus(("value", "c"), B), ("fails", ("fail", "e"), ())),
                          (plus(B, ("value", "c")), ("fails", ("fail", "e"), ()))):
            self.assertEqual(run(ground, Permits(ground), term), end)

    def test_values_of_letters_are_told_by_no_fact(self):
        self.assertEqual(run(GROUND, NO, plus(X, B)), value(gave("plus")))
        self.assertEqual(run(GROUND, NO, ("bind", "v", A, plus(("name", "v"), B))), value(("value", "c")))

    def test_a_fact_within_a_term(self):
        self.assertEqual(run(GROUND, NO, ("if", minus(A, B), A, B)), value(B))
        self.assertEqual(run(GROUND, NO, ("try", minus(B, B), A)), value(A))
        self.assertEqual(run(GROUND, NO, minus(plus(A, ("not", T)), ZERO)), value(gave("minus")))


class Left(unittest.TestCase):
    def left(self, term, *rows, bits=()):
        return run(GROUND, permits(*rows), term, bits)[2]

    def test_letters_that_write_and_were_evaluated(self):
        self.assertEqual(self.left(then(Y, X), ("writes", "x")), (("x", (1,)),))
        self.assertEqual(self.left(then(Y, X), ("writes", "x"), ("writes", "y")), (("x", (1,)), ("y", (1,))))
        self.assertEqual(self.left(then(X, A), ("writes", "y")), ())
        self.assertEqual(self.left(then(X, Y)), ())

    def test_by_the_last_occurrence(self):
        self.assertEqual(self.left(then(z(A), z(B), z(A)), ("writes", "z")), (("z", (2, 1)),))
        self.assertEqual(self.left(then(z(A), z(B), z(B)), ("writes", "z")), (("z", (1, 2)),))

    def test_pairs_that_share(self):
        self.assertEqual(self.left(then(Y, X), ("shares", "x", "y")),
                         (("x", (1,)), ("y", (1,)), ("x", "y", (("y", 1), ("x", 1)))))
        self.assertEqual(self.left(then(Y, X, Y), ("shares", "x", "y"))[2], ("x", "y", (("x", 1), ("y", 1))))

    def test_shares_told_with_the_earlier_letter_first(self):
        told = self.left(then(z(A), X), ("shares", "z", "x"))
        self.assertEqual(told, (("x", (1,)), ("z", (1,)), ("x", "z", (("z", 1), ("x", 1)))))

    def test_one_of_both_is_enough(self):
        self.assertEqual(self.left(X, ("shares", "x", "y")), (("x", (1,)), ("x", "y", (("x", 1),))))

    def test_in_the_order_of_permissions(self):
        told = run(GROUND, FULL, then(z(A), Y, X))[2]
        self.assertEqual([row[:-1] for row in told], [("x",), ("y",), ("z",), ("x", "y"), ("x", "z"), ("y", "z")])

    def test_of_failures_and_of_what_never_ends(self):
        self.assertEqual(run(GROUND, FULL, then(X, ("fail", "e")))[2][0], ("x", (1,)))
        self.assertEqual(run(GROUND, FULL, then(X, Y), (0, 0, 1)), ("stays", None, ()))

    def test_fixed_letters_leave_nothing(self):
        self.assertEqual(run(GROUND, FULL, minus(A, A))[2], ())


class Both(unittest.TestCase):
    def test_numbers_and_answers_of_the_first_run(self):
        within = permits(("fails", "x"))
        self.assertEqual(both(GROUND, within, X, X, (1,)), (("fails", ("failed", "x", 1), ()),) * 2)
        self.assertEqual(both(GROUND, NO, then(z(A), z(B)), then(z(B), z(A))), (value(gave("z", 2)), value(gave("z", 1))))
        self.assertEqual(both(GROUND, NO, z(A), z(B)), (value(gave("z", 1)), value(gave("z", 2))))

    def test_further_bits_for_new_questions(self):
        within = permits(("fails", "x"), ("fails", "y"))
        self.assertEqual(both(GROUND, within, X, then(X, Y), (0, 1)),
                         (value(gave("x")), ("fails", ("failed", "y", 1), ())))
        self.assertEqual(both(GROUND, NO, X, ("not", X), (1,)), (value(gave("x")), value(T)))

    def test_from_the_beginning(self):
        within = permits(("shows", "x", "x"))
        self.assertEqual(both(GROUND, within, X, X), (value(gave("x"), ("x", (1,))),) * 2)
        within = permits(("writes", "x"), ("writes", "y"))
        self.assertEqual(both(GROUND, within, X, Y), (value(gave("x"), ("x", (1,))), value(gave("y"), ("y", (1,)))))

    def test_behind_what_never_ends(self):
        within = permits(("stays", "x"))
        self.assertEqual(both(GROUND, within, X, A, (1,)), (("stays", None, ()), value(A)))
        self.assertEqual(both(GROUND, within, A, X, (1,)), (value(A), ("stays", None, ())))

    def test_a_pair(self):
        self.assertIs(type(both(GROUND, NO, A, B)), tuple)


class AsAPlainTelling(unittest.TestCase):
    """A second telling of points 14 to 16, tests/model.py, says the same of terms by chance."""

    def test_terms_by_chance(self):
        chance = random.Random(14)
        for _ in range(400):
            one, other = [random_term(chance, GROUND, chance.randrange(1, 15)) for _ in range(2)]
            rows = [row for row in FULL if chance.random() < chance.choice((0.2, 0.6, 1))]
            within, bits = permits(*rows), [int(chance.random() < 0.3) for _ in range(chance.randrange(12))]
            model = Model(GROUND, within, bits)
            end = model.run(one)
            self.assertEqual(run(GROUND, within, one, bits), end)
            self.assertEqual(evaluations(GROUND, within, one, bits), model.history)
            self.assertEqual(questions(GROUND, within, one, bits), model.asked)
            self.assertEqual(both(GROUND, within, one, other, bits), (end, model.run(other)))


class Errors(unittest.TestCase):
    def calls(self, within, one, other, bits):
        return [lambda: run(GROUND, within, one, bits), lambda: questions(GROUND, within, one, bits),
                lambda: evaluations(GROUND, within, one, bits), lambda: both(GROUND, within, one, A, bits),
                lambda: both(GROUND, within, other, one, bits)]

    def test_bad_bits(self):
        for thing in any_objects():
            if not isinstance(thing, (list, tuple)):
                for call in self.calls(NO, A, A, thing):
                    with self.assertRaises(BadBits) as caught:
                        call()
                    self.assertEqual(caught.exception.index, 0)
            if not (type(thing) is int and thing in (0, 1)):
                for index in (0, 1, 5):
                    for call in self.calls(NO, A, A, (0,) * index + (thing, None)):
                        with self.assertRaises(BadBits) as caught:
                            call()
                        self.assertEqual(caught.exception.index, index)

    def test_bad_terms_ahead_of_bits(self):
        for thing in any_objects():
            for call in self.calls(NO, ("not", thing), A, 3):
                with self.assertRaises(BadTerm) as caught:
                    call()
                self.assertEqual(caught.exception.path, (0,))
        with self.assertRaises(BadTerm) as caught:
            both(GROUND, NO, ("not", 3), ("not", ("not", 3)), 3)
        self.assertEqual(caught.exception.path, (0,))
        with self.assertRaises(BadTerm) as caught:
            both(GROUND, NO, A, ("not", ("not", 3)), 3)
        self.assertEqual(caught.exception.path, (0, 0))

    def test_unlike_grounds_first_of_all(self):
        for other in (Ground({"x": 0}), Ground(GROUND.letters(), GROUND.fixed(), GROUND.commuting())):
            for call in self.calls(Permits(other), 3, 3, 3):
                with self.assertRaises(UnlikeGrounds):
                    call()

    def test_equal_grounds_need_not_be_the_same(self):
        same = Ground(GROUND.letters(), GROUND.fixed(), GROUND.commuting(), GROUND.facts())
        self.assertEqual(run(same, NO, X), value(gave("x")))


if __name__ == "__main__":
    unittest.main()
