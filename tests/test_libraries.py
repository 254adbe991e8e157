"""Points 42 to 44: libraries of functions."""

import copy
import random
import unittest

from any_objects import NO_NAMES, any_objects
from freeworldrules.errors import BadFunction, BadTerm, NoFunction, UnlikeGrounds, UnlikeLibraries
from freeworldrules.grounds import Ground
from freeworldrules.libraries import Library, callers, unlike
from freeworldrules.permits import Permits
from freeworldrules.players import permits_of
from freeworldrules.rules import holds, ways
from freeworldrules.runs import evaluations
from freeworldrules.terms import checked, part_at, parts, size
from model import Model, random_term

GROUND = Ground({"x": 0, "y": 1, "plus": 2}, ["plus"], ["plus"], [("plus", ("a", "b"), ("fail", "bad"))])

X, A, B = ("use", "x", ()), ("value", "a"), ("value", "b")
V, W = ("name", "v"), ("name", "w")


def y(one):
    return ("use", "y", (one,))


def plus(one, other):
    return ("use", "plus", (one, other))


def use(name, *terms):
    return ("use", name, terms)


ONCE = ("once", (), ("not", X))
TWICE = ("twice", ("v",), plus(V, V))
BOTH = ("both", ("v", "w"), ("then", use("once"), plus(use("twice", W), V)))

LIBRARY = Library(GROUND, [ONCE, TWICE, BOTH])


class Called(Model):
    """The free world in which functions are called: their terms are evaluated first, and then the body."""

    def __init__(self, library, permits, bits=()):
        Model.__init__(self, library.ground, permits, bits)
        self.functions = {name: (names, body) for name, names, body in library.functions()}

    def use(self, letter, values):
        if letter not in self.functions:
            return Model.use(self, letter, values)
        names, body = self.functions[letter]
        return self.value(body, dict(zip(names, values)))


def called_ways(library, permits, term, bits=()):
    """All pairs of bits and ends of a term, functions being called."""
    world = Called(library, permits, bits)
    end = world.run(term)
    if len(world.asked) == len(bits):
        return [(tuple(bits), end)]
    return called_ways(library, permits, term, bits + (0,)) + called_ways(library, permits, term, bits + (1,))


def evaluated(library, permits, term, bits):
    """All evaluations of a term by bits, functions being called."""
    world = Called(library, permits, bits)
    world.run(term)
    return world.history


class ByCalls(unittest.TestCase):
    def check(self, library, permits, term):
        """An inlined term ends and is evaluated as the functions are called."""
        told = library.inlined(term)
        every = ways(library.ground, permits, told)
        self.assertEqual(every, called_ways(library, permits, term), (library.functions(), term))
        for bits, _ in every:
            self.assertEqual(evaluations(library.ground, permits, told, bits), evaluated(library, permits, term, bits),
                             (library.functions(), term, told))


def random_library(chance, ground, most=3):
    functions = []
    for name in ("f", "g", "h")[:chance.randrange(1, most + 1)]:
        names = chance.sample(("v", "w", "t"), chance.randrange(3))
        wide = Library(ground, functions).wide()
        functions.append((name, names, random_term(chance, wide, chance.randrange(1, 5), tuple(names))))
    return Library(ground, functions)


class Making(unittest.TestCase):
    def test_what_is_kept(self):
        self.assertEqual(LIBRARY.ground, GROUND)
        self.assertEqual(LIBRARY.functions(), [ONCE, TWICE, BOTH])
        self.assertIs(type(LIBRARY.functions()), list)
        LIBRARY.functions().clear()
        self.assertEqual(len(LIBRARY.functions()), 3)

    def test_no_functions(self):
        for library in (Library(GROUND), Library(GROUND, ()), Library(GROUND, [])):
            self.assertEqual(library.functions(), [])
            self.assertEqual(library.wide(), GROUND)
            self.assertEqual(library.inlined(plus(X, A)), plus(X, A))
            self.assertEqual(library.permits(Permits.full(GROUND)), Permits.full(GROUND))
            self.assertEqual(unlike(library, Library(GROUND), Permits(GROUND)), [])

    def test_tuples_throughout(self):
        library = Library(GROUND, [["f", ["v"], ["use", "plus", [["name", "v"], ["value", "a"]]]]])
        self.assertEqual(library.functions(), [("f", ("v",), plus(V, A))])
        self.assertEqual(library, Library(GROUND, ((("f", ("v",), plus(V, A))),)))

    def test_the_wide_ground(self):
        wide = LIBRARY.wide()
        self.assertIs(type(wide), Ground)
        self.assertEqual(list(wide.letters().items()),
                         [("x", 0), ("y", 1), ("plus", 2), ("once", 0), ("twice", 1), ("both", 2)])
        self.assertEqual(wide.fixed(), ["plus"])
        self.assertEqual(wide.commuting(), ["plus"])
        self.assertEqual(wide.facts(), GROUND.facts())

    def test_equal_libraries(self):
        self.assertEqual(LIBRARY, Library(GROUND, [ONCE, TWICE, BOTH]))
        for other in (Library(GROUND), Library(GROUND, [ONCE, TWICE]), Library(GROUND, [TWICE, ONCE, BOTH]),
                      Library(GROUND, [("once", (), ("not", ("not", X))), TWICE, BOTH]),
                      Library(GROUND, [ONCE, ("twice", ("w",), plus(W, W)), BOTH]),
                      Library(Ground({"x": 0, "y": 1, "plus": 2}, ["plus"]), [ONCE, TWICE, BOTH])):
            self.assertNotEqual(LIBRARY, other)
        for thing in any_objects():
            self.assertNotEqual(LIBRARY, thing)
            self.assertFalse(LIBRARY == thing)

    def test_what_is_passed_is_copied_and_stays(self):
        functions = [["f", ["v"], ["not", ["name", "v"]]]]
        passed = copy.deepcopy(functions)
        library = Library(GROUND, functions)
        self.assertEqual(functions, passed)
        functions[0][2][0] = "nothing"
        functions[0][1].append("w")
        functions.append(None)
        self.assertEqual(library.functions(), [("f", ("v",), ("not", V))])


class BadFunctions(unittest.TestCase):
    def bad(self, functions, index):
        with self.assertRaises(BadFunction, msg=functions) as caught:
            Library(GROUND, functions)
        self.assertEqual(caught.exception.index, index)

    def test_no_list(self):
        for thing in any_objects() + ["once"]:
            if not isinstance(thing, (list, tuple)):
                self.bad(thing, 0)

    def test_things_that_are_no_functions(self):
        for thing in any_objects() + [("f", ()), ("f", (), A, A), (A, "f", ())]:
            self.bad([ONCE, TWICE, thing, None], 2)

    def test_names_of_functions(self):
        for name in any_objects() + NO_NAMES:
            if not isinstance(name, str) or name in NO_NAMES:
                self.bad([(name, (), A)], 0)
        # a letter's, also a fixed one's; an earlier function's
        for name in ("x", "y", "plus", "once"):
            self.bad([ONCE, (name, (), A)], 1)
        self.assertEqual(len(Library(GROUND, [("v", ("v",), V), ("value", (), A), ("if", ("w",), W)]).functions()), 3)

    def test_names_of_parts(self):
        for names in any_objects() + ["v", ("v", "v"), ("v", "w", "t"), ("v", "V"), [["v"]], ("", "v")]:
            if names not in ([], (), ["x"], ("x", "y"), ("value",), ["fails"]):
                self.bad([ONCE, ("f", names, A)], 1)

    def test_bodies(self):
        for body in any_objects() + [V, ("use", "q", ()), use("plus", A), ("bind", "v", V, V)]:
            self.bad([ONCE, ("f", ("w",), body)], 1)

    def test_a_function_that_is_not_ahead(self):
        self.bad([("f", (), use("g")), ("g", (), A)], 0)
        self.bad([("f", ("v",), ("if", V, A, use("f", V)))], 0)
        self.bad([ONCE, ("f", (), use("once", A))], 1)
        self.bad([TWICE, ("f", (), use("twice"))], 1)
        self.bad([("f", (), use("f"))], 0)
        self.assertEqual(len(Library(GROUND, [("f", (), A), ("g", (), use("f"))]).functions()), 2)

    def test_the_first_one_is_told(self):
        self.bad([ONCE, None, ("once", (), A)], 1)
        self.bad([ONCE, ONCE, None], 1)


class Inlined(ByCalls):
    def test_without_functions(self):
        for term in (X, plus(X, A), ("bind", "v", X, y(V))):
            self.assertEqual(LIBRARY.inlined(term), term)

    def test_names_stay_where_they_can(self):
        self.assertEqual(LIBRARY.inlined(use("once")), ("not", X))
        self.assertEqual(LIBRARY.inlined(use("twice", X)), ("bind", "v", X, plus(V, V)))
        self.assertEqual(LIBRARY.inlined(("then", use("once"), use("once"))), ("then", ("not", X), ("not", X)))

    def test_from_left_to_right(self):
        library = Library(GROUND, [("f", ("w", "v"), plus(V, W))])
        self.assertEqual(library.inlined(use("f", X, y(A))), ("bind", "w", X, ("bind", "v", y(A), plus(V, W))))
        # also a term that the body does not use is evaluated
        library = Library(GROUND, [("f", ("w", "v"), A)])
        self.assertEqual(library.inlined(use("f", X, y(A))), ("bind", "w", X, ("bind", "v", y(A), A)))

    def binds(self, term):
        found = [part_at(GROUND, term, path) for path in parts(GROUND, term) if part_at_word(term, path) == "bind"]
        return [part[1] for part in found]

    def test_no_name_of_a_function_stands_twice(self):
        for term in (use("twice", use("twice", X)), plus(use("twice", X), use("twice", A)),
                     ("bind", "v", X, use("twice", V)), ("then", use("twice", X), ("bind", "v", A, V)),
                     use("both", use("twice", X), use("both", A, B)),
                     ("bind", "w", X, ("bind", "v", A, use("both", W, V)))):
            names = self.binds(LIBRARY.inlined(term))
            self.assertEqual(len(names), len(set(names)), (term, names))

    def test_names_that_would_catch_a_name_around(self):
        # f's second term is the name v, which its first name would catch; and so in bodies
        library = Library(GROUND, [("f", ("v", "w"), plus(V, W)), ("g", ("w", "v"), use("f", V, W))])
        for term in (("bind", "v", X, use("f", A, V)), ("bind", "w", X, ("bind", "v", y(A), use("f", W, V))),
                     ("bind", "w", X, ("bind", "v", y(A), use("g", W, use("g", V, W))))):
            permits = Permits(GROUND, [("fails", "y"), ("writes", "x")])
            self.check(library, permits, term)

    def test_binds_of_bodies(self):
        # a body that binds its own name again, and one that binds a name of its term
        library = Library(GROUND, [("f", ("v",), ("bind", "v", y(V), plus(V, V))),
                                   ("g", ("v",), ("bind", "w", X, plus(V, W))), ("h", ("w",), use("g", W))])
        for term in (use("f", X), ("bind", "w", y(X), use("g", W)), use("h", y(X)), use("f", use("f", X)),
                     ("bind", "v", X, use("g", use("h", V)))):
            permits = Permits(GROUND, [("fails", "y"), ("writes", "x"), ("shows", "x", "y")])
            self.check(library, permits, term)

    def test_other_names_that_a_body_would_catch(self):
        # v has to be another name, for which the first ones are bound in bodies
        named = [("name", name) for name in "abc"]
        body = ("bind", "a", X, ("bind", "b", y(A), plus(V, plus(named[0], named[1]))))
        library = Library(GROUND, [("f", ("v",), body), ("g", ("v",), use("f", V)), ("h", ("c",), use("g", named[2]))])
        permits = Permits(GROUND, [("fails", "y"), ("writes", "x")])
        for name in ("f", "g", "h"):
            for bound in ("v", "c", "a"):
                self.check(library, permits, ("bind", bound, y(B), plus(use(name, ("name", bound)), ("name", bound))))

    def test_names_called_like_letters(self):
        library = Library(GROUND, [("f", ("plus", "x"), plus(X, plus(("name", "x"), ("name", "plus"))))])
        for bound in ("plus", "x", "f"):
            self.check(library, Permits(GROUND), ("bind", bound, y(A), use("f", X, ("name", bound))))

    def test_an_earlier_function_twice(self):
        library = Library(GROUND, [("f", ("v",), ("not", V)), ("g", ("v",), plus(use("f", V), use("f", use("f", V)))),
                                   ("h", (), use("g", use("g", A)))])
        told = library.inlined(use("h"))
        self.assertEqual(checked(GROUND, told), told)
        self.assertEqual(size(GROUND, told), 27)
        names = self.binds(told)
        self.assertEqual(len(names), len(set(names)))

    def test_by_chance(self):
        chance = random.Random(43)
        ground = Ground({"x": 0, "y": 1, "plus": 2}, ["plus"], ["plus"])
        for _ in range(250):
            library = random_library(chance, ground)
            term = checked(library.wide(), random_term(chance, library.wide(), chance.randrange(1, 8)))
            told = library.inlined(term)
            self.assertEqual(checked(ground, told), told)
            if size(ground, told) <= 40:
                permits = Permits(ground, chance.sample(Permits.full(ground).rows(), chance.randrange(5)))
                self.check(library, permits, term)

    def test_wrong_terms(self):
        for thing in any_objects():
            with self.assertRaises(BadTerm) as caught:
                LIBRARY.inlined(use("both", A, thing))
            self.assertEqual(caught.exception.path, (1,))
        for term, path in ((use("q"), ()), (use("once", A), ()), (use("twice"), ()), (("not", V), (0,)),
                           (use("both", use("once"), use("nothing")), (1,))):
            with self.assertRaises(BadTerm) as caught:
                LIBRARY.inlined(term)
            self.assertEqual(caught.exception.path, path)

    def test_lists_stand_for_tuples(self):
        term = ["use", "both", [["use", "x", []], ["value", "a"]]]
        passed = copy.deepcopy(term)
        self.assertEqual(LIBRARY.inlined(term), LIBRARY.inlined(use("both", X, A)))
        self.assertEqual(LIBRARY.inlined(term=term), LIBRARY.inlined(term))
        self.assertEqual(term, passed)


def part_at_word(term, path):
    return part_at(GROUND, term, path)[0] if path else term[0]


class WidePermits(unittest.TestCase):
    def test_what_functions_do(self):
        library = Library(GROUND, [("f", ("v",), ("try", y(V), A)), ("g", (), ("then", X, ("fail", "e"))), ("h", ("v",), V)])
        permits = Permits(GROUND, [("fails", "y"), ("stays", "x"), ("shows", "x", "y"), ("writes", "y")])
        self.assertEqual(library.permits(permits).rows(), [
            ("fails", "y"), ("fails", "plus"), ("fails", "g"), ("stays", "x"), ("stays", "g"),
            ("writes", "x"), ("writes", "y"), ("writes", "f"), ("writes", "g"),
            ("shows", "x", "y"), ("shows", "x", "f"), ("shows", "g", "y"), ("shows", "g", "f"),
            ("shares", "x", "g"), ("shares", "y", "f")])
        self.assertEqual(library.permits(permits).ground, library.wide())

    def test_functions_within_functions(self):
        library = Library(GROUND, [("f", (), X), ("g", ("v",), ("then", use("f"), V)), ("h", (), use("g", A))])
        told = library.permits(Permits(GROUND, [("fails", "x"), ("shows", "x", "x")]))
        for one in ("x", "f", "g", "h"):
            self.assertIn(("fails", one), told)
            for other in ("x", "f", "g", "h"):
                self.assertIn(("shows", one, other), told)
        self.assertNotIn(("stays", "h"), told)

    def test_a_failure_that_comes_in_no_way(self):
        library = Library(GROUND, [("f", ("v",), ("if", ("value", "false"), ("fail", "e"), V)),
                                   ("g", ("v",), ("if", V, V, ("fail", "e")))])
        told = library.permits(Permits(GROUND))
        self.assertEqual(told.rows(), [("fails", "plus"), ("fails", "g")])

    def test_as_for_players(self):
        chance = random.Random(430)
        ground = Ground({"x": 0, "y": 1, "plus": 2}, ["plus"], ["plus"])
        for _ in range(80):
            library = random_library(chance, ground)
            permits = Permits(ground, chance.sample(Permits.full(ground).rows(), chance.randrange(6)))
            wide = library.wide()
            players = {}
            for name, names, body in library.functions():
                # within binds of its names all uses are put by bodies, and the binds are taken off again
                whole = body
                for one in reversed(names):
                    whole = ("bind", one, ("value", "a"), whole)
                whole = library.inlined(whole)
                for _ in names:
                    whole = whole[3]
                players[name] = (names, whole)
            self.assertEqual(library.permits(permits), permits_of(wide, Permits(wide, permits.rows()), players))

    def test_rules_over_the_wide_ground_hold(self):
        chance = random.Random(431)
        ground = Ground({"x": 0, "y": 1, "plus": 2}, ["plus"], ["plus"])
        kept = 0
        for _ in range(300):
            library = random_library(chance, ground, 2)
            permits = Permits(ground, [row for row in Permits.full(ground) if chance.random() < 0.2])
            wide = library.wide()
            some = ("use", "f", tuple([("use", "x", ())] * wide.letters()["f"]))
            one, other = random_term(chance, wide, chance.randrange(1, 6)), random_term(chance, wide, chance.randrange(1, 6))
            one, other = chance.choice([(one, other), (("then", one, other), other), (("then", some, one), ("then", one, some)),
                                        (("then", some, ("then", some, one)), ("then", some, one))])
            if holds(wide, library.permits(permits), one, other):
                kept += 1
                self.assertTrue(holds(ground, permits, library.inlined(one), library.inlined(other)),
                                (library.functions(), permits.rows(), one, other))
        self.assertGreater(kept, 40)

    def test_permits_of_another_ground(self):
        for ground in (LIBRARY.wide(), Ground({"x": 0})):
            with self.assertRaises(UnlikeGrounds):
                LIBRARY.permits(Permits(ground))

    def test_what_is_passed_stays(self):
        permits = Permits(GROUND, [("fails", "x")])
        rows = permits.rows()
        self.assertEqual(LIBRARY.permits(permits=permits), LIBRARY.permits(permits))
        self.assertEqual(permits.rows(), rows)
        self.assertEqual(LIBRARY.functions(), [ONCE, TWICE, BOTH])


class Changed(unittest.TestCase):
    def test_another_function_in_its_place(self):
        told = LIBRARY.changed("twice", ("w",), ("not", W))
        self.assertIs(type(told), Library)
        self.assertEqual(told, Library(GROUND, [ONCE, ("twice", ("w",), ("not", W)), BOTH]))
        self.assertEqual(LIBRARY.functions(), [ONCE, TWICE, BOTH])
        self.assertEqual(LIBRARY.changed("both", (), use("once")).functions()[2], ("both", (), use("once")))
        self.assertEqual(LIBRARY.changed("once", [], ["not", ["use", "x", []]]), LIBRARY)
        self.assertEqual(LIBRARY.changed(body=A, names=(), name="once"), LIBRARY.changed("once", (), A))

    def test_names_of_no_function(self):
        for name in any_objects() + NO_NAMES + ["plus", "onc", ("once",)]:
            with self.assertRaises(NoFunction) as caught:
                LIBRARY.changed(name, None, None)
            self.assertIs(caught.exception.name, name)
            with self.assertRaises(NoFunction) as caught:
                callers(LIBRARY, name)
            self.assertIs(caught.exception.name, name)

    def test_things_that_are_no_functions(self):
        for names, body in ((("v", "v"), A), ("v", A), (None, A), ((), V), ((), None), ((), use("both", A, A)), ((), use("twice", A))):
            with self.assertRaises(BadFunction) as caught:
                LIBRARY.changed("twice", names, body)
            self.assertEqual(caught.exception.index, 1)
        for thing in any_objects():
            with self.assertRaises(BadFunction) as caught:
                LIBRARY.changed("twice", ("v",), ("not", thing))
            self.assertEqual(caught.exception.index, 1)

    def test_a_later_one_that_can_no_longer_use_it(self):
        with self.assertRaises(BadFunction) as caught:
            LIBRARY.changed("once", ("v",), V)
        self.assertEqual(caught.exception.index, 2)
        self.assertEqual(LIBRARY.functions(), [ONCE, TWICE, BOTH])


class Callers(unittest.TestCase):
    def test_those_that_use_it_or_a_caller(self):
        library = Library(GROUND, [("a", (), A), ("b", (), use("a")), ("c", (), B), ("d", (), ("then", use("c"), use("b"))),
                                   ("e", (), ("then", use("d"), use("d")))])
        told = {name: callers(library, name) for name in "abcde"}
        self.assertEqual(told, {"a": ["b", "d", "e"], "b": ["d", "e"], "c": ["d", "e"], "d": ["e"], "e": []})
        self.assertEqual(callers(library=library, name="b"), ["d", "e"])
        callers(library, "a").clear()
        self.assertEqual(callers(library, "a"), ["b", "d", "e"])

    def test_a_value_called_like_a_function(self):
        library = Library(GROUND, [("a", (), A), ("b", ("a",), ("try", ("name", "a"), ("then", A, ("fail", "a"))))])
        self.assertEqual(callers(library, "a"), [])


class Unlike(unittest.TestCase):
    none = Permits(GROUND)

    def test_a_change_that_can_be_seen(self):
        library = Library(GROUND, [("f", ("v",), ("not", V)), ("g", (), use("f", X)), ("h", (), X)])
        other = library.changed("f", ("v",), V)
        self.assertEqual(unlike(library, other, self.none), ["f", "g"])
        self.assertEqual(unlike(other, library, self.none), ["f", "g"])
        self.assertEqual(unlike(one=library, other=other, permits=self.none), ["f", "g"])

    def test_a_change_that_can_not_be_seen(self):
        library = Library(GROUND, [("f", ("v",), ("not", V)), ("g", (), use("f", X))])
        for names, body in ((("w",), ("not", W)), (("v",), ("not", ("not", ("not", V)))), (("v",), ("then", X, ("not", V)))):
            self.assertEqual(unlike(library, library.changed("f", names, body), self.none), [])
        seen = library.changed("f", ("v",), ("then", X, ("not", V)))
        self.assertEqual(unlike(library, seen, Permits(GROUND, [("writes", "x")])), ["f"])
        self.assertEqual(unlike(library, library, Permits.full(GROUND)), [])

    def test_a_caller_that_does_not_let_it_be_seen(self):
        library = Library(GROUND, [("f", ("v",), V), ("g", ("v",), ("then", use("f", V), A)), ("h", ("v",), use("f", V))])
        self.assertEqual(unlike(library, library.changed("f", ("v",), B), self.none), ["f", "h"])

    def test_names_by_places(self):
        library = Library(GROUND, [("f", ("v", "w"), ("if", V, V, W))])
        self.assertEqual(unlike(library, library.changed("f", ("w", "v"), ("if", W, W, V)), self.none), [])
        self.assertEqual(unlike(library, library.changed("f", ("w", "v"), ("if", V, V, W)), self.none), ["f"])
        self.assertEqual(unlike(library, library.changed("f", ("v", "w"), ("or", V, W)), self.none), [])

    def test_names_of_the_body_that_those_of_an_earlier_function_would_catch(self):
        library = Library(GROUND, [("f", ("v", "w"), ("if", V, W, y(V))), ("g", ("v", "w"), use("f", W, V))])
        self.assertEqual(unlike(library, library.changed("g", ("v", "w"), ("if", W, V, y(W))), self.none), [])
        self.assertEqual(unlike(library, library.changed("g", ("v", "w"), ("if", V, W, y(V))), self.none), ["g"])

    def test_names_have_values_of_letters_of_their_own(self):
        # whatever the letters of the ground are called, and also if both values are alike
        ground = Ground({"v": 0, "w": 0, "a": 0, "b": 0})
        for letter in ground:
            one = Library(ground, [("f", ("v", "w"), V)])
            for body in (W, ("use", letter, ()), ("if", V, V, ("value", "true")), ("value", "true")):
                self.assertEqual(unlike(one, one.changed("f", ("v", "w"), body), Permits(ground)), ["f"])

    def test_libraries_that_are_not_like(self):
        for functions in ([], [ONCE], [ONCE, TWICE], [TWICE, ONCE, BOTH], [ONCE, TWICE, ("both", ("v",), V)],
                          [ONCE, TWICE, ("other", ("v", "w"), V)], [ONCE, TWICE, BOTH, ("more", (), A)]):
            with self.assertRaises(UnlikeLibraries):
                unlike(LIBRARY, Library(GROUND, functions), self.none)
            # grounds come first
            with self.assertRaises(UnlikeGrounds):
                unlike(LIBRARY, Library(GROUND, functions), Permits(LIBRARY.wide()))

    def test_grounds_that_are_not_like(self):
        fewer = Ground({"x": 0, "y": 1, "plus": 2}, ["plus"])
        for one, other, permits in ((LIBRARY, Library(fewer, [ONCE, TWICE, BOTH]), self.none),
                                    (Library(fewer, [ONCE, TWICE, BOTH]), LIBRARY, self.none),
                                    (LIBRARY, LIBRARY, Permits(fewer)), (LIBRARY, Library(fewer), self.none),
                                    (Library(fewer), Library(fewer), self.none)):
            with self.assertRaises(UnlikeGrounds):
                unlike(one, other, permits)

    def test_exactly_those_that_can_be_put_for_one_another(self):
        """They end alike for terms of further letters exactly if they are not told, and then in all terms."""
        chance = random.Random(44)
        ground = Ground({"x": 0, "y": 1, "plus": 2}, ["plus"], ["plus"])
        further = Ground({**ground.letters(), "k": 0, "l": 0}, ["plus", "k", "l"], ["plus"])
        told, silent = 0, 0
        for _ in range(250):
            one = random_library(chance, ground)
            name, names, body = chance.choice(one.functions())
            ahead = Library(ground, one.functions()[:[row[0] for row in one.functions()].index(name)]).wide()
            others = [random_term(chance, ahead, chance.randrange(1, 4), tuple(names)), ("then", ("use", "x", ()), body),
                      ("then", body, body), ("not", ("not", body))]
            other = one.changed(name, names, chance.choice(others))
            permits = Permits(ground, [row for row in Permits.full(ground) if chance.random() < 0.2])
            found = unlike(one, other, permits)
            self.assertLessEqual(set(found), {name, *callers(one, name)})
            self.assertEqual(found, [row[0] for row in one.functions() if row[0] in found])
            ones, others = Library(further, one.functions()), Library(further, other.functions())
            for each, inner, _ in one.functions():
                term = ("use", each, (("use", "k", ()), ("use", "l", ()))[:len(inner)])
                alike = holds(further, Permits(further, permits.rows()), ones.inlined(term), others.inlined(term))
                self.assertIs(each not in found, alike, (one.functions(), other.functions(), permits.rows()))
                if each in found:
                    told += 1
                    continue
                silent += 1
                wide = Ground({**ground.letters(), each: len(inner)}, ground.fixed(), ground.commuting())
                around = random_term(chance, wide, chance.randrange(2, 6))
                if size(ground, one.inlined(around)) <= 30:
                    self.assertTrue(holds(ground, permits, one.inlined(around), other.inlined(around)))
        self.assertGreater(min(told, silent), 50)


class TheLimits(unittest.TestCase):
    def test_four_functions_on_a_large_ground(self):
        ground = Ground({"x": 0, "y": 1, "z": 2, "t": 0, "plus": 2, "k": 1, "l": 2}, ["plus", "k", "l"], ["plus", "l"],
                        [("k", (name,), ("fail", name)) for name in "abcdef"])
        x, z = ("use", "x", ()), ("use", "z", (V, W))
        functions = [("first", ("v", "w"), ("then", ("try", x, V), z)), ("second", ("v",), use("first", V, ("value", "a"))),
                     ("third", ("v", "w"), ("if", V, use("second", W), ("use", "k", (V,)))),
                     ("fourth", ("v", "w"), ("try", use("third", V, W), ("use", "y", (W,))))]
        library = Library(ground, functions)
        self.assertEqual(len(library.wide()), 11)
        full = Permits.full(ground)
        self.assertEqual(library.permits(full).within(Permits.full(library.wide())), True)
        term = library.inlined(use("fourth", ("use", "t", ()), A))
        self.assertEqual(checked(ground, term), term)
        self.assertGreater(len(ways(ground, full, term)), 10)
        other = library.changed("first", ("v", "w"), ("then", ("try", x, W), z))
        self.assertEqual(unlike(library, other, full), [])
        other = library.changed("first", ("v", "w"), ("then", ("try", x, ("fail", "e")), z))
        self.assertEqual(unlike(library, other, full), ["first", "second", "third", "fourth"])

    def test_ten_uses(self):
        ground = Ground({"x": 0, "y": 0, "z": 0, "t": 0})
        x, y_, z, t = [("use", letter, ()) for letter in ground]
        body = ("then", ("try", x, A), ("then", y_, ("if", z, ("last", t, x), V)))
        one = Library(ground, [("f", ("v",), body)])
        other = one.changed("f", ("v",), ("then", ("not", ("try", x, B)), ("then", y_, ("if", z, ("last", t, x), V))))
        self.assertEqual(unlike(one, other, Permits.full(ground)), [])


if __name__ == "__main__":
    unittest.main()
