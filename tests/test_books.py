"""Points 34 and 35: books of rules."""

import unittest

from any_objects import NO_NAMES, any_objects
from freeworldrules.books import Book
from freeworldrules.errors import BadName, BadNumber, BadTerm, Broken, NoRule, Taken, UnlikeGrounds
from freeworldrules.grounds import Ground
from freeworldrules.permits import Permits
from freeworldrules.rules import holds, is_parting, parting
from freeworldrules.terms import part_at, parts, put_at, size

GROUND = Ground({"x": 0, "y": 0, "f": 1, "plus": 2, "k": 0}, ["plus", "k"], ["plus"])

X, Y, K, V, W = ("use", "x", ()), ("use", "y", ()), ("use", "k", ()), ("name", "v"), ("name", "w")
A, B, T = ("value", "a"), ("value", "b"), ("value", "true")
NO = Permits(GROUND)
FULL = Permits.full(GROUND)


def then(*terms):
    return terms[0] if len(terms) == 1 else ("then", terms[0], then(*terms[1:]))


def plus(one, other):
    return ("use", "plus", (one, other))


def f(term):
    return ("use", "f", (term,))


def permits(*rows):
    return Permits(GROUND, rows)


def book_of(within, **rules):
    book = Book(GROUND, within)
    for name, rule in rules.items():
        book.add(name, *rule)
    return book


def uses(term):
    return len([path for path in parts(GROUND, term) if part_at(GROUND, term, path)[0] == "use"])


class Rules(unittest.TestCase):
    def test_add_and_rule_and_names(self):
        book = Book(GROUND, NO)
        self.assertEqual(book.names(), [])
        self.assertIsNone(book.add("swap", plus(X, Y), plus(Y, X)))
        self.assertIsNone(book.add("away", ["then", ["use", "x", []], ["value", "a"]], A))
        book.add("both", X, X)
        self.assertEqual(book.names(), ["away", "both", "swap"])
        self.assertEqual(book.rule("swap"), (plus(X, Y), plus(Y, X)))
        self.assertEqual(book.rule("away"), (then(X, A), A))
        self.assertIs(type(book.rule("away")), tuple)

    def test_drop_and_add_again(self):
        book = book_of(NO, one=(X, X), other=(then(X, A), A))
        self.assertIsNone(book.drop("one"))
        self.assertEqual(book.names(), ["other"])
        with self.assertRaises(NoRule):
            book.rule("one")
        book.add("one", then(Y, B), B)
        self.assertEqual(book.rule("one"), (then(Y, B), B))
        self.assertEqual(book.names(), ["one", "other"])

    def test_what_is_told_is_new_and_what_is_passed_stays(self):
        book = Book(GROUND, NO)
        side = ["then", ["use", "x", []], ["value", "a"]]
        book.add("away", side, A)
        side[2][1] = "b"
        book.names().clear()
        self.assertEqual((book.names(), book.rule("away")), (["away"], (then(X, A), A)))

    def test_books_do_not_share_rules(self):
        one, other = book_of(NO, away=(then(X, A), A)), Book(GROUND, NO)
        self.assertEqual((one.names(), other.names()), (["away"], []))


class Steps(unittest.TestCase):
    def test_by_names_then_paths(self):
        book = book_of(NO, b=(plus(X, Y), plus(Y, X)), a=(("not", ("not", X)), ("if", X, T, ("value", "false"))))
        term = plus(("not", ("not", X)), plus(A, B))
        whether = ("if", X, T, ("value", "false"))
        self.assertEqual(book.steps(term), [
            ("a", (0,), plus(whether, plus(A, B))),
            ("b", (), plus(plus(A, B), ("not", ("not", X)))),
            ("b", (1,), plus(("not", ("not", X)), plus(B, A)))])

    def test_at_several_places(self):
        book = book_of(NO, r=(then(X, A), A))
        term = then(then(Y, A), then(then(B, A), A))
        self.assertEqual(book.steps(term), [
            ("r", (0,), then(A, then(then(B, A), A))), ("r", (1,), then(then(Y, A), A)),
            ("r", (1, 0), then(then(Y, A), then(A, A)))])

    def test_from_the_first_side_to_the_second_alone(self):
        book = book_of(NO, r=(then(X, A), A))
        self.assertEqual(book.steps(A), [])
        self.assertEqual(book.steps(("not", A)), [])
        self.assertEqual(book.steps(then(A, A)), [("r", (), A)])

    def test_the_same_term_each_time(self):
        book = book_of(NO, r=(plus(X, X), then(X, plus(X, X))))
        self.assertEqual(book.steps(plus(A, B)), [])
        self.assertEqual(book.steps(plus(X, Y)), [])
        self.assertEqual(book.steps(plus(f(A), f(A))), [("r", (), then(f(A), plus(f(A), f(A))))])

        # also where it would end alike for unlike ones
        book = book_of(NO, r=(then(X, X, A), A))
        self.assertEqual(book.steps(then(A, B, A)), [])
        self.assertEqual(book.steps(then(X, Y, A)), [])
        self.assertEqual(book.steps(then(f(B), f(B), A)), [("r", (), A)])

    def test_values_and_names_like_a_letter(self):
        value, name, fail = ("value", "x"), ("name", "x"), ("fail", "x")
        book = book_of(NO, r=(then(X, value), value), s=(("try", fail, X), then(("try", fail, A), X)),
                       t=(("bind", "x", Y, ("not", ("not", ("not", name)))), ("bind", "x", Y, ("not", name))))
        self.assertEqual(book.steps(then(A, value)), [("r", (), value)])
        self.assertEqual(book.steps(then(A, A)), [])
        self.assertEqual(book.steps(("try", fail, B)), [("s", (), then(("try", fail, A), B))])
        self.assertEqual(book.steps(("bind", "x", K, ("not", ("not", ("not", name))))),
                         [("t", (), ("bind", "x", K, ("not", name)))])

    def test_letters_stand_for_any_term(self):
        book = book_of(NO, r=(("if", X, Y, Y), then(X, Y)))
        for one in (A, X, f(Y), ("bind", "v", A, V), ("if", X, A, B), ("fail", "e"), K):
            told = book.steps(("if", one, B, B))
            self.assertIn(("r", (), then(one, B)), told)

    def test_all_else_is_as_it_stands(self):
        for one, other, good, bad in (
                (f(A), then(A, f(A)), f(A), [f(B), f(X), A]), (then(K, A), A, then(K, A), [then(X, A), then(A, A), K]),
                (then(X, A), A, then(Y, A), [then(Y, B), then(Y, T)]),
                (("try", ("fail", "e"), X), X, ("try", ("fail", "e"), K), [("try", ("fail", "f"), K), ("try", K, K)]),
                (plus(X, A), plus(A, X), plus(K, A), [plus(A, K)]),
                (("bind", "v", X, V), X, ("bind", "v", K, V), [("bind", "w", K, W), ("bind", "v", K, ("not", V))]),
                (("and", T, X), X, ("and", T, K), [("or", T, K), ("and", K, T)])):
            book = book_of(NO, r=(one, other))
            self.assertEqual([step[1] for step in book.steps(good)], [()], good)
            for term in bad:
                self.assertNotIn((), [step[1] for step in book.steps(term)], term)

    def test_a_letter_with_parts_and_a_fixed_one_stand_for_themselves(self):
        book = book_of(NO, r=(then(f(X), X), X), s=(then(K, X), X))
        self.assertEqual(book.steps(then(f(A), A)), [("r", (), A)])
        self.assertEqual(book.steps(then(plus(A, A), A)), [])
        self.assertEqual(book.steps(then(K, B)), [("s", (), B)])

    def test_letters_of_the_second_side_alone_stand_for_themselves(self):
        book = book_of(NO, r=(X, then(Y, X)))
        self.assertEqual(book.steps(A), [("r", (), then(Y, A))])
        self.assertEqual(book.steps(plus(A, B)), [("r", (), then(Y, plus(A, B))), ("r", (0,), plus(then(Y, A), B)),
                                                  ("r", (1,), plus(A, then(Y, B)))])
        # also where the letter stands for something in the term
        self.assertEqual(book.steps(Y), [("r", (), then(Y, Y))])

    def test_names_that_are_bound_outside(self):
        book = book_of(NO, r=(("not", ("not", ("not", X))), ("not", X)))
        three = ("not", ("not", ("not", V)))
        self.assertEqual(book.steps(("bind", "v", A, three)), [])
        inside = ("bind", "v", B, V)
        self.assertEqual(book.steps(("bind", "v", A, ("not", ("not", ("not", inside))))),
                         [("r", (1,), ("bind", "v", A, ("not", inside)))])
        # in a bind that it stands in itself, and beside it
        whole = ("not", ("not", ("not", ("bind", "v", A, V))))
        self.assertEqual(book.steps(whole), [("r", (), ("not", ("bind", "v", A, V)))])
        # the name in what a bind names is that of the bind around it
        for within in (("bind", "v", V, B), ("bind", "w", A, ("and", V, W)), f(V), plus(B, V), ("bind", "w", B, V)):
            self.assertEqual(book.steps(("bind", "v", A, ("not", ("not", ("not", within))))), [])
        self.assertEqual(book.steps(("bind", "plus", A, ("not", ("not", ("not", plus(B, ("name", "plus"))))))), [])
        again = ("bind", "v", A, ("bind", "v", V, V))
        self.assertEqual(book.steps(("not", ("not", ("not", again)))), [("r", (), ("not", again))])
        mixed = ("bind", "v", A, ("not", ("not", ("not", ("bind", "w", B, plus(V, W))))))
        self.assertEqual(book.steps(mixed), [])

    def test_a_bound_name_of_the_rule_itself(self):
        book = book_of(NO, r=(("bind", "v", X, plus(V, V)), plus(X, X)))
        self.assertEqual(book.steps(("bind", "v", f(A), plus(V, V))), [("r", (), plus(f(A), f(A)))])
        # y does not stand for the bound name
        book = book_of(NO, r=(("bind", "v", X, Y), then(X, Y)))
        self.assertEqual(book.steps(("bind", "v", A, V)), [])
        self.assertEqual(book.steps(("bind", "v", A, B)), [("r", (), then(A, B))])

    def test_a_step_that_changes_nothing(self):
        book = book_of(NO, r=(plus(X, Y), plus(Y, X)), s=(X, X))
        self.assertEqual(book.steps(plus(A, A)), [])
        self.assertEqual(book.steps(plus(A, B)), [("r", (), plus(B, A))])

    def test_behind_which_the_whole_ends_alike(self):
        # the rule holds for x and y, that may not fail, but not for whatever stands for them
        within = permits(("fails", "f"), ("writes", "f"), ("writes", "x"))
        book = book_of(within, r=(then(X, Y, A), then(Y, X, A)), s=(then(Y, A), A))
        self.assertEqual(book.steps(then(X, f(A), A)), [])
        self.assertEqual(book.steps(then(f(A), A)), [])
        self.assertEqual(book.steps(then(B, f(A), A)), [("r", (), then(f(A), B, A))])
        # what comes of it may be dropped around it
        self.assertEqual(book.steps(("try", then(("fail", "e"), A), A)), [("s", (0,), ("try", A, A))])
        self.assertEqual(book.steps(("try", then(("fail", "e"), A), B)), [])

    def test_at_most_14_parts_and_5_uses(self):
        book = book_of(NO, r=(X, then(X, X)))
        for term in (A, X, plus(A, f(B)), then(f(X), f(Y), A)):
            for _, _, other in book.steps(term):
                self.assertLessEqual(size(GROUND, other), 14)
                self.assertLessEqual(uses(other), 5)
        self.assertEqual(len(book.steps(then(X, X, A))), 5)
        self.assertEqual([step[1] for step in book.steps(then(X, X, X, A))], [(0,), (1,), (1, 0), (1, 1), (1, 1, 0), (1, 1, 1)])
        self.assertEqual([step[1] for step in book.steps(then(X, X, X, X, X, A))], [(1, 1, 1, 1, 1)])
        long = A
        for _ in range(12):
            long = ("not", long)
        self.assertEqual(size(GROUND, long), 13)
        self.assertEqual(book.steps(long), [])
        self.assertEqual([step[1] for step in book.steps(long[1])], [(0,) * 11])
        self.assertEqual(size(GROUND, book.steps(long[1])[0][2]), 14)

    def test_no_rules(self):
        self.assertEqual(Book(GROUND, NO).steps(then(X, A)), [])

    def test_lists_for_tuples(self):
        book = book_of(NO, r=(then(X, A), A))
        term = ["then", ["use", "y", []], ["value", "a"]]
        self.assertEqual(book.steps(term), [("r", (), A)])
        self.assertEqual(term, ["then", ["use", "y", []], ["value", "a"]])

    def test_each_step_as_is_told(self):
        within = permits(("fails", "x"), ("writes", "y"))
        book = book_of(within, r=(plus(A, Y), plus(Y, A)), s=(("try", X, Y), ("try", ("try", X, Y), Y)), t=(X, then(A, X)))
        term = plus(A, ("try", X, then(B, Y)))
        told = book.steps(term)
        self.assertGreater(len(told), 5)
        for name, path, other in told:
            self.assertTrue(holds(GROUND, within, term, other))
            self.assertNotEqual(other, term)
            self.assertEqual(put_at(GROUND, term, path, part_at(GROUND, other, path)), other)
        self.assertEqual([step[:2] for step in told], sorted(step[:2] for step in told))
        self.assertEqual({type(step) for step in told}, {tuple})


class Forms(unittest.TestCase):
    def test_by_the_number_of_steps_then_as_met(self):
        book = book_of(NO, r=(plus(X, Y), plus(Y, X)), s=(then(X, A), A))
        one = plus(then(B, A), B)
        self.assertEqual(book.forms(one, 10), [one, plus(B, then(B, A)), plus(A, B), plus(B, A)])
        self.assertEqual(book.forms(A, 10), [A])

    def test_at_most_so_many(self):
        book = book_of(NO, r=(plus(X, Y), plus(Y, X)), s=(then(X, A), A))
        one = plus(then(B, A), B)
        every = book.forms(one, 4)
        self.assertEqual(len(every), 4)
        for most in range(1, 4):
            self.assertEqual(book.forms(one, most), every[:most])
        self.assertEqual(book.forms(one, 10 ** 20), every)

    def test_each_once_and_reached_by_steps(self):
        within = permits(("fails", "x"), ("stays", "y"))
        book = book_of(within, r=(plus(X, A), plus(A, X)), q=(plus(A, X), plus(X, A)), s=(X, then(A, X)),
                       t=(then(A, X), X))
        one = plus(X, then(A, Y))
        told = book.forms(one, 40)
        self.assertEqual(len(told), 40)
        self.assertEqual(told[0], one)
        found = [one]
        for form in told:
            for _, _, other in book.steps(form):
                if other not in found:
                    found.append(other)
        self.assertEqual(told, found[:40])

    def test_fewest_steps_first(self):
        book = book_of(NO, a=(("not", ("not", ("not", X))), ("not", X)), b=(("not", X), ("if", X, ("value", "false"), T)))
        term = ("not", ("not", ("not", K)))
        told = book.forms(term, 50)
        self.assertEqual(told[1], ("not", K))
        steps = {repr(term): 0}
        for form in told:
            for _, _, other in book.steps(form):
                steps.setdefault(repr(other), steps[repr(form)] + 1)
        self.assertEqual([steps[repr(form)] for form in told], sorted(steps[repr(form)] for form in told))

    def test_cheapest(self):
        book = book_of(NO, r=(plus(X, Y), plus(Y, X)), s=(then(X, A), A), t=(A, then(X, A)))
        one = plus(then(B, A), B)
        self.assertEqual(book.cheapest(one, 1), one)
        self.assertEqual(book.cheapest(one, 2), one)
        self.assertEqual(book.cheapest(one, 30), plus(A, B))
        self.assertEqual(book.cheapest(plus(B, A), 30), plus(B, A))
        self.assertEqual(book.cheapest(["use", "plus", [["value", "b"], ["value", "a"]]], 1), plus(B, A))

    def test_at_the_limits(self):
        ground = Ground({"w": 0, "x": 0, "y": 0, "z": 0, "plus": 2, "k": 0, "m": 1}, ["plus", "k", "m"], ["plus"])
        within = Permits(ground, [("fails", "x"), ("stays", "y"), ("stays", "w"), ("writes", "y"), ("shows", "z", "z")])
        book = Book(ground, within)
        z = ("use", "z", ())
        book.add("left", then(then(X, Y), z), then(X, Y, z))
        book.add("right", then(X, Y, z), then(then(X, Y), z))
        book.add("swap", plus(X, B), plus(B, X))
        book.add("attempt", ("try", B, X), B)
        term = then(plus(X, ("try", B, A)), then(z, ("use", "w", ())), ("if", Y, A, B))
        self.assertEqual((size(ground, term), len(book.names())), (14, 4))
        told = book.forms(term, 100)
        self.assertEqual(told[0], term)
        self.assertGreater(len(told), 4)
        for form in told:
            self.assertTrue(holds(ground, within, term, form))

    def test_what_is_told_is_new(self):
        book = book_of(NO, r=(then(X, A), A))
        book.forms(then(B, A), 5).clear()
        book.steps(then(B, A)).clear()
        self.assertEqual((len(book.forms(then(B, A), 5)), len(book.steps(then(B, A)))), (2, 1))

    def test_a_rule_that_is_dropped_leads_nowhere(self):
        book = book_of(NO, r=(then(X, A), A))
        self.assertEqual(book.forms(then(B, A), 5), [then(B, A), A])
        book.drop("r")
        self.assertEqual(book.forms(then(B, A), 5), [then(B, A)])
        book.add("r", then(B, X), X)
        self.assertEqual(book.steps(then(B, A)), [("r", (), A)])


class Errors(unittest.TestCase):
    def test_unlike_grounds(self):
        with self.assertRaises(UnlikeGrounds):
            Book(GROUND, Permits(Ground({"x": 0})))

    def test_bad_names(self):
        book = book_of(NO, x=(X, X))
        for name in any_objects() + NO_NAMES:
            if name not in ("x", "y", "true", "value", "use", "fails"):
                with self.assertRaises(BadName) as caught:
                    book.add(name, 3, 3)
                self.assertIs(caught.exception.name, name)
        self.assertEqual(book.names(), ["x"])

    def test_taken(self):
        book = book_of(NO, x=(X, X))
        with self.assertRaises(Taken) as caught:
            book.add("x", 3, 3)
        self.assertEqual(caught.exception.name, "x")
        with self.assertRaises(Taken):
            book.add("x", A, B)
        self.assertEqual(book.rule("x"), (X, X))

    def test_bad_terms(self):
        book = Book(GROUND, NO)
        for thing in any_objects():
            for one, other, path in ((("not", thing), 3, (0,)), (A, ("and", A, thing), (1,))):
                with self.assertRaises(BadTerm) as caught:
                    book.add("r", one, other)
                self.assertEqual(caught.exception.path, path)
            for call in (lambda: book.steps(("not", thing)), lambda: book.forms(("not", thing), 3),
                         lambda: book.forms(("not", thing), None), lambda: book.cheapest(("not", thing), 0)):
                with self.assertRaises(BadTerm) as caught:
                    call()
                self.assertEqual(caught.exception.path, (0,))
        self.assertEqual(book.names(), [])

    def test_broken_with_the_parting(self):
        for within in (NO, FULL, permits(("fails", "x"), ("fails", "y"))):
            book = Book(GROUND, within)
            for one, other in ((A, B), (("if", X, A, B), A), (then(X, Y, A), then(Y, X, A)), (("try", X, Y), X)):
                bits = parting(GROUND, within, one, other)
                if bits is None:
                    book.add("r", one, other)
                    book.drop("r")
                else:
                    with self.assertRaises(Broken) as caught:
                        book.add("r", one, other)
                    self.assertEqual(caught.exception.bits, bits)
                    self.assertTrue(is_parting(GROUND, within, one, other, "same", caught.exception.bits))
                self.assertEqual(book.names(), [])
        with self.assertRaises(Broken) as caught:
            Book(GROUND, permits(("fails", "x"), ("fails", "y"))).add("r", then(X, Y, A), then(Y, X, A))
        self.assertEqual(caught.exception.bits, (1, 1))

    def test_no_rule(self):
        book = book_of(NO, x=(X, X))
        for name in any_objects() + NO_NAMES + ["other"]:
            if name != "x":
                for call in (book.drop, book.rule):
                    with self.assertRaises(NoRule) as caught:
                        call(name)
                    self.assertIs(caught.exception.name, name)
        self.assertEqual(book.names(), ["x"])

    def test_bad_numbers(self):
        book = Book(GROUND, NO)
        for most in any_objects() + [-5, "1", [1]]:
            if not (type(most) is int and most >= 1):
                for call in (book.forms, book.cheapest):
                    with self.assertRaises(BadNumber) as caught:
                        call(A, most)
                    self.assertIs(caught.exception.number, most)


if __name__ == "__main__":
    unittest.main()
