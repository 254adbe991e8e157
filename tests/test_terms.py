"""Points 7, 8 and 9: terms, their parts and the places of these."""

import unittest

from any_objects import NAMES, NO_NAMES, any_objects
from freeworldrules.errors import BadTerm, NoPart
from freeworldrules.grounds import Ground
from freeworldrules.terms import checked, part_at, parts, put_at, size

GROUND = Ground({"x": 0, "y": 1, "plus": 2, "zero": 0}, ["plus", "zero"], ["plus"])

X = ("use", "x", ())
V = ("value", "a")

# for each word a term, and the terms directly within it
EACH = [
    (("value", "a"), []),
    (("fail", "a"), []),
    (("use", "x", ()), []),
    (("use", "y", (V,)), [V]),
    (("use", "plus", (X, V)), [X, V]),
    (("if", X, V, ("fail", "b")), [X, V, ("fail", "b")]),
    (("and", X, V), [X, V]),
    (("or", X, V), [X, V]),
    (("not", X), [X]),
    (("then", X, V), [X, V]),
    (("bind", "a", X, ("name", "a")), [X, ("name", "a")]),
    (("try", X, V), [X, V]),
    (("last", X, V), [X, V]),
]

NESTED = ("bind", "v", ("use", "y", (("value", "true"),)),
          ("if", ("name", "v"),
           ("bind", "v", ("not", ("name", "v")), ("use", "plus", (("name", "v"), X))),
           ("try", ("fail", "bad"), ("last", X, ("name", "v")))))

NESTED_PATHS = [(), (0,), (0, 0), (1,), (1, 0), (1, 1), (1, 1, 0), (1, 1, 0, 0), (1, 1, 1), (1, 1, 1, 0),
                (1, 1, 1, 1), (1, 2), (1, 2, 0), (1, 2, 1), (1, 2, 1, 0), (1, 2, 1, 1)]


def in_lists(thing):
    return [in_lists(part) for part in thing] if isinstance(thing, (list, tuple)) else thing


class BadTerms(unittest.TestCase):
    def bad_path(self, thing, ground=GROUND):
        with self.assertRaises(BadTerm) as caught:
            checked(ground, thing)
        self.assertIs(type(caught.exception.path), tuple)
        return caught.exception.path


class Right(unittest.TestCase):
    def test_each_word(self):
        for term, _ in EACH:
            self.assertEqual(checked(GROUND, term), term)
        self.assertEqual(checked(GROUND, NESTED), NESTED)

    def test_all_names(self):
        for name in NAMES:
            for term in (("value", name), ("fail", name), ("bind", name, X, ("name", name))):
                self.assertEqual(checked(GROUND, term), term)

    def test_lists_for_tuples(self):
        for term in [term for term, _ in EACH] + [NESTED]:
            self.assertEqual(checked(GROUND, in_lists(term)), term)

    def test_a_name_like_a_letter_and_bound_again(self):
        for term in (("bind", "x", X, ("bind", "x", ("name", "x"), ("name", "x"))),
                     ("bind", "a", X, ("not", ("bind", "b", ("name", "a"), ("and", ("name", "a"), ("name", "b")))))):
            self.assertEqual(checked(GROUND, term), term)

    def test_what_is_told_is_no_list_of_the_caller(self):
        term = ["use", "y", [["value", "a"]]]
        told = checked(GROUND, term)
        term[2][0][1] = "b"
        self.assertEqual(told, ("use", "y", (V,)))


class Wrong(BadTerms):
    def test_any_object(self):
        for thing in any_objects():
            self.assertEqual(self.bad_path(thing), ())

    def test_any_object_within(self):
        for term, terms in EACH:
            for place in range(len(terms)):
                for thing in any_objects():
                    self.assertEqual(self.bad_path(exchanged(term, place, thing)), (place,))

    def test_unknown_words(self):
        for word in any_objects() + ["iff", "If", "let", "", "uses"]:
            if word not in ("value", "use"):
                for things in ((), (X,), (X, V), ("a",), (X, V, V), ("x", ())):
                    self.assertEqual(self.bad_path((word,) + things), ())

    def test_a_string_is_no_list(self):
        self.assertEqual(self.bad_path("value"), ())
        self.assertEqual(self.bad_path(("use", "x", "")), ())
        self.assertEqual(self.bad_path(("not", "value")), (0,))

    def test_wrong_numbers_of_things(self):
        for term, _ in EACH:
            self.assertEqual(self.bad_path(term[:-1]), ())
            self.assertEqual(self.bad_path(term + (V,)), ())
            self.assertEqual(self.bad_path(("not", term + (V,))), (0,))

    def test_wrong_names(self):
        for name in any_objects() + NO_NAMES:
            if name not in ("x", "y", "true", "value", "use", "fails"):
                for term in (("value", name), ("fail", name), ("name", name), ("bind", name, X, X)):
                    self.assertEqual(self.bad_path(term), ())
                self.assertEqual(self.bad_path(("bind", "a", X, ("name", name))), (1,))

    def test_wrong_letters(self):
        for letter in any_objects() + ["times", "X"]:
            for terms in ((), (V,), (V, V)):
                if letter not in ("x", "y"):
                    self.assertEqual(self.bad_path(("use", letter, terms)), ())

    def test_wrong_numbers_of_terms(self):
        for letter, many in GROUND.letters().items():
            for number in range(4):
                if number != many:
                    self.assertEqual(self.bad_path(("use", letter, (V,) * number)), ())

    def test_terms_that_are_no_list(self):
        for terms in any_objects() + [X, V]:
            for letter in ("x", "y", "plus"):
                if not isinstance(terms, (list, tuple)):
                    self.assertEqual(self.bad_path(("use", letter, terms)), ())

    def test_the_ground_counts(self):
        other = Ground({"x": 1})
        self.assertEqual(checked(other, ("use", "x", (V,))), ("use", "x", (V,)))
        self.assertEqual(self.bad_path(("not", X), other), (0,))


class NamesOfNoBind(BadTerms):
    def test_without_a_bind(self):
        self.assertEqual(self.bad_path(("name", "a")), ())
        self.assertEqual(self.bad_path(("and", X, ("name", "a"))), (1,))

    def test_of_a_bind_beside_or_within(self):
        bind = ("bind", "a", X, ("name", "a"))
        self.assertEqual(self.bad_path(("and", bind, ("name", "a"))), (1,))
        self.assertEqual(self.bad_path(("bind", "b", bind, ("name", "a"))), (1,))

    def test_of_another_name(self):
        self.assertEqual(self.bad_path(("bind", "a", X, ("name", "b"))), (1,))

    def test_letters_and_values_bind_nothing(self):
        self.assertEqual(self.bad_path(("use", "plus", (X, ("name", "plus")))), (1,))
        self.assertEqual(self.bad_path(("and", ("value", "a"), ("name", "a"))), (1,))
        with self.assertRaises(BadTerm) as caught:
            put_at(GROUND, ("use", "plus", (X, X)), (1,), ("name", "plus"))
        self.assertEqual(caught.exception.path, (1,))

    def test_in_what_the_bind_names(self):
        self.assertEqual(self.bad_path(("bind", "a", ("name", "a"), X)), (0,))
        self.assertEqual(self.bad_path(("bind", "a", ("not", ("name", "a")), ("name", "a"))), (0, 0))


class WhichIsFirst(BadTerms):
    def test_a_part_ahead_of_those_within_it(self):
        self.assertEqual(self.bad_path(("bind", "A", 3, 3)), ())
        self.assertEqual(self.bad_path(("use", "x", (3,))), ())
        self.assertEqual(self.bad_path(("use", "times", (3,))), ())
        self.assertEqual(self.bad_path(("if", 3, 3)), ())
        self.assertEqual(self.bad_path(("not", ("and", 3, 3, 3))), (0,))

    def test_from_left_to_right(self):
        self.assertEqual(self.bad_path(("if", X, ("not", 3), 3)), (1, 0))
        self.assertEqual(self.bad_path(("if", X, V, 3)), (2,))
        self.assertEqual(self.bad_path(("use", "plus", (("not", ("not", 3)), 3))), (0, 0, 0))
        self.assertEqual(self.bad_path(("bind", "a", ("not", ("value", "A")), ("name", "b"))), (0, 0))
        self.assertEqual(self.bad_path(("then", ("last", X, ("try", V, ("name", "a"))), 3)), (0, 1, 1))

    def test_within_binds(self):
        self.assertEqual(self.bad_path(("not", ("bind", "a", 3, 3))), (0, 0))
        self.assertEqual(self.bad_path(("not", ("bind", "a", X, 3))), (0, 1))
        self.assertEqual(self.bad_path(("and", X, ("bind", "a", X, ("bind", "b", ("not", ("name", "b")), 3)))), (1, 1, 0, 0))


class Parts(unittest.TestCase):
    def test_paths_in_order(self):
        self.assertEqual(parts(GROUND, NESTED), NESTED_PATHS)
        self.assertEqual(parts(GROUND, in_lists(NESTED)), NESTED_PATHS)

    def test_each_word(self):
        for term, terms in EACH:
            found = parts(GROUND, term)
            self.assertIs(type(found), list)
            self.assertEqual([path for path in found if len(path) < 2], [()] + [(k,) for k in range(len(terms))])
            for place, part in enumerate(terms):
                self.assertEqual(part_at(GROUND, term, (place,)), part)

    def test_size(self):
        self.assertEqual([size(GROUND, term) for term, _ in EACH], [1, 1, 1, 2, 3, 4, 3, 3, 2, 3, 3, 3, 3])
        self.assertEqual(size(GROUND, NESTED), 16)
        self.assertEqual(size(GROUND, in_lists(NESTED)), 16)

    def test_part_at(self):
        for path, part in (((), NESTED), ((0,), ("use", "y", (("value", "true"),))), ((0, 0), ("value", "true")),
                           ((1, 0), ("name", "v")), ((1, 1, 1), ("use", "plus", (("name", "v"), X))),
                           ((1, 1, 1, 1), X), ((1, 2, 1, 1), ("name", "v"))):
            self.assertEqual(part_at(GROUND, NESTED, path), part)
            self.assertEqual(part_at(GROUND, in_lists(NESTED), list(path)), part)

    def test_what_is_told_is_new(self):
        found = parts(GROUND, X)
        found.append(3)
        self.assertEqual(parts(GROUND, X), [()])


class NoParts(unittest.TestCase):
    def no_part(self, term, path):
        for call in (lambda: part_at(GROUND, term, path), lambda: put_at(GROUND, term, path, V),
                     lambda: put_at(GROUND, term, path, 3)):
            with self.assertRaises(NoPart) as caught:
                call()
            self.assertIs(caught.exception.path, path)

    def test_any_object(self):
        for thing in any_objects():
            if thing != [] and thing != ():
                self.no_part(("and", X, V), thing)

    def test_any_object_in_a_path(self):
        term = ("and", ("and", X, X), ("not", X))
        for thing in any_objects():
            if not (thing in (0, 1) and type(thing) is int):
                self.no_part(term, (thing,))
                self.no_part(term, [0, thing])
                self.no_part(term, (thing, 0))

    def test_truths_are_no_integers(self):
        for path in ((False,), (True,), [True, 0], (0, False)):
            self.no_part(("and", ("not", X), ("not", X)), path)

    def test_numbers_that_lead_nowhere(self):
        for path in ((2,), (-1,), (0, 0), (1, 1), (1, 0, 0), (1, -1), (10 ** 20,)):
            self.no_part(("and", X, ("not", V)), path)

    def test_all_short_paths(self):
        for path in [(a, b) for a in range(-1, 4) for b in range(-1, 4)] + [(a,) for a in range(-1, 4)]:
            if path not in NESTED_PATHS:
                self.no_part(NESTED, path)


class PutAt(unittest.TestCase):
    def test_each_place(self):
        for term, terms in EACH:
            for place in range(len(terms)):
                self.assertEqual(put_at(GROUND, term, (place,), ("not", X)), exchanged(term, place, ("not", X)))
            self.assertEqual(put_at(GROUND, term, (), NESTED), NESTED)

    def test_deep_within(self):
        self.assertEqual(put_at(GROUND, NESTED, (1, 1, 0, 0), X),
                         ("bind", "v", NESTED[2],
                          ("if", ("name", "v"),
                           ("bind", "v", ("not", X), ("use", "plus", (("name", "v"), X))), NESTED[3][3])))

    def test_each_part_in_its_own_place(self):
        for path in NESTED_PATHS:
            part = part_at(GROUND, NESTED, path)
            self.assertEqual(put_at(GROUND, in_lists(NESTED), list(path), in_lists(part)), NESTED)

    def test_names_that_are_bound_around_the_place(self):
        term = ("bind", "a", X, ("bind", "b", V, ("not", X)))
        both = ("and", ("name", "a"), ("name", "b"))
        self.assertEqual(put_at(GROUND, term, (1, 1, 0), both), ("bind", "a", X, ("bind", "b", V, ("not", both))))
        self.assertEqual(put_at(GROUND, term, (1, 1), both), ("bind", "a", X, ("bind", "b", V, both)))
        self.assertEqual(put_at(GROUND, term, (1, 0), ("name", "a")),
                         ("bind", "a", X, ("bind", "b", ("name", "a"), ("not", X))))

    def test_passed_things_stay(self):
        term, path, other = in_lists(NESTED), [1, 1], ["value", "b"]
        put_at(GROUND, term, path, other)
        self.assertEqual((term, path, other), (in_lists(NESTED), [1, 1], ["value", "b"]))


class PutAtWrong(unittest.TestCase):
    def bad_path(self, term, path, other):
        with self.assertRaises(BadTerm) as caught:
            put_at(GROUND, term, path, other)
        self.assertIs(type(caught.exception.path), tuple)
        return caught.exception.path

    def test_any_object_for_the_other_one(self):
        for thing in any_objects():
            self.assertEqual(self.bad_path(NESTED, [1, 1, 0], thing), (1, 1, 0))

    def test_the_path_is_that_in_the_whole(self):
        self.assertEqual(self.bad_path(NESTED, (1, 2), ("and", X, ("not", 3))), (1, 2, 1, 0))
        self.assertEqual(self.bad_path(NESTED, [], ("and", 3, 3)), (0,))

    def test_names_that_are_not_bound_around_the_place(self):
        term = ("bind", "a", X, ("bind", "b", V, ("not", X)))
        self.assertEqual(self.bad_path(term, (0,), ("name", "a")), (0,))
        self.assertEqual(self.bad_path(term, (), ("name", "a")), ())
        self.assertEqual(self.bad_path(term, (1,), ("not", ("name", "b"))), (1, 0))
        self.assertEqual(self.bad_path(term, (1, 0), ("name", "b")), (1, 0))
        self.assertEqual(self.bad_path(term, (1, 1, 0), ("name", "c")), (1, 1, 0))

    def test_a_bind_that_is_put_away_binds_no_more(self):
        term = ("bind", "a", X, ("name", "a"))
        self.assertEqual(self.bad_path(term, (), ("not", ("name", "a"))), (0,))


class OfTheTermsThatAreTold(unittest.TestCase):
    def test_all_raise_bad_term(self):
        for thing in any_objects():
            for call in (lambda: parts(GROUND, ("not", thing)), lambda: size(GROUND, ("not", thing)),
                         lambda: part_at(GROUND, ("not", thing), (5,)),
                         lambda: put_at(GROUND, ("not", thing), (5,), 3)):
                with self.assertRaises(BadTerm) as caught:
                    call()
                self.assertEqual(caught.exception.path, (0,))

    def test_all_are_of_tuples_throughout(self):
        for term in [term for term, _ in EACH] + [NESTED]:
            told = [checked(GROUND, in_lists(term)), part_at(GROUND, in_lists(term), []),
                    put_at(GROUND, V, [], in_lists(term)), put_at(GROUND, ["not", X], [0], in_lists(term))]
            for each in told:
                self.assertTrue(only_tuples(each))


def only_tuples(thing):
    if isinstance(thing, str):
        return True
    return type(thing) is tuple and all(only_tuples(part) for part in thing)


def exchanged(term, place, thing):
    """The term with a thing in a place directly within it, written out anew."""
    if term[0] == "use":
        terms = term[2][:place] + (thing,) + term[2][place + 1:]
        return ("use", term[1], terms)
    at = place + (2 if term[0] == "bind" else 1)
    return term[:at] + (thing,) + term[at + 1:]


if __name__ == "__main__":
    unittest.main()
