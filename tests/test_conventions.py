"""Points 2 and 4, and the interface: how all is called, and what it is given."""

import importlib
import inspect
import unittest

from any_objects import NAMES, NO_NAMES
from freeworldrules.errors import BadFact, BadLetter, BadPermit, BadTerm, NoPart
from freeworldrules.grounds import Ground
from freeworldrules.permits import Permits
from freeworldrules.terms import checked, part_at, parts, put_at, size

# file, name, and the arguments as they are shown
FUNCTIONS = [
    ("terms", "checked", "(ground, thing)"),
    ("terms", "parts", "(ground, term)"),
    ("terms", "part_at", "(ground, term, path)"),
    ("terms", "put_at", "(ground, term, path, other)"),
    ("terms", "size", "(ground, term)"),
    ("grounds", "Ground", "(letters, fixed=(), commuting=(), facts=())"),
    ("permits", "Permits", "(ground, rows=())"),
]

METHODS = {
    Ground: {"letters": "(self)", "fixed": "(self)", "commuting": "(self)", "facts": "(self)",
             "__len__": "(self)", "__contains__": "(self, letter)", "__iter__": "(self)", "__eq__": "(self, other)"},
    Permits: {"rows": "(self)", "without": "(self, row)", "within": "(self, other)", "joined": "(self, other)",
              "common": "(self, other)", "full": "(ground)",
              "__len__": "(self)", "__contains__": "(self, row)", "__iter__": "(self)", "__eq__": "(self, other)"},
}


class TheInterface(unittest.TestCase):
    def test_functions_and_classes_with_their_arguments(self):
        for file, name, arguments in FUNCTIONS:
            thing = getattr(importlib.import_module("freeworldrules." + file), name)
            self.assertEqual(str(inspect.signature(thing)), arguments)
            self.assertEqual(thing.__module__, "freeworldrules." + file)

    def test_methods_stand_in_their_class(self):
        for owner, methods in METHODS.items():
            for name, arguments in methods.items():
                self.assertIn(name, vars(owner))
                self.assertEqual(str(inspect.signature(getattr(owner, name))), arguments)
        self.assertIsInstance(vars(Permits)["full"], staticmethod)

    def test_attributes_are_set_on_each_object(self):
        self.assertIn("ground", vars(Permits(Ground({"x": 0}))))


class ByPlaceAndByName(unittest.TestCase):
    def test_grounds(self):
        letters, facts = {"p": 2, "x": 0}, [("p", ("a", "b"), ("value", "c"))]
        by_place = Ground(letters, ["p"], ["p"], facts)
        self.assertEqual(by_place, Ground(letters=letters, fixed=["p"], commuting=["p"], facts=facts))
        self.assertEqual(by_place, Ground(facts=facts, commuting=["p"], fixed=["p"], letters=letters))
        self.assertEqual(Ground(letters, facts=()), Ground(letters, (), (), ()))

    def test_terms(self):
        ground, term, other = Ground({"x": 0}), ("not", ("use", "x", ())), ("value", "a")
        self.assertEqual(checked(ground=ground, thing=term), checked(ground, term))
        self.assertEqual(parts(ground=ground, term=term), parts(ground, term))
        self.assertEqual(size(ground=ground, term=term), size(ground, term))
        self.assertEqual(part_at(ground=ground, term=term, path=(0,)), part_at(ground, term, (0,)))
        self.assertEqual(put_at(ground=ground, term=term, path=(0,), other=other), put_at(ground, term, (0,), other))
        self.assertEqual(put_at(ground, other=other, path=(0,), term=term), ("not", other))

    def test_permits(self):
        ground, row = Ground({"x": 0}), ("fails", "x")
        permits = Permits(ground=ground, rows=[row])
        self.assertEqual(permits, Permits(ground, [row]))
        self.assertEqual(permits.without(row=row), permits.without(row))
        self.assertIs(permits.within(other=permits), True)
        self.assertEqual(permits.joined(other=permits), permits)
        self.assertEqual(permits.common(other=permits), permits)
        self.assertEqual(Permits.full(ground=ground), Permits.full(ground))


class ListsAndTuples(unittest.TestCase):
    def test_either_one_everywhere(self):
        for row in (list, tuple):
            ground = Ground({"p": 2, "x": 0}, row(["p"]), row(["p"]),
                            row([row(["p", row(["a", "b"]), row(["value", "c"])])]))
            self.assertEqual(ground.facts(), [("p", ("a", "b"), ("value", "c"))])
            self.assertEqual((ground.fixed(), ground.commuting()), (["p"], ["p"]))
            permits = Permits(ground, row([row(["fails", "x"])]))
            self.assertEqual(permits.rows(), [("fails", "x")])
            self.assertIn(row(["fails", "x"]), permits)
            self.assertEqual(len(permits.without(row(["fails", "x"]))), 0)
            use = row(["use", "p", row([row(["value", "a"]), row(["use", "x", row([])])])])
            self.assertEqual(checked(ground, use), ("use", "p", (("value", "a"), ("use", "x", ()))))
            self.assertEqual(part_at(ground, use, row([1])), ("use", "x", ()))
            self.assertEqual(put_at(ground, use, row([1]), row(["value", "b"]))[2], (("value", "a"), ("value", "b")))

    def test_no_string_is_a_list(self):
        ground = Ground({"p": 2, "f": 1, "x": 0}, ["p", "f"])
        for call, error in (
                (lambda: Ground({"p": 2}, ["p"], facts=[("p", "ab", ("value", "c"))]), BadFact),
                (lambda: Ground({"f": 1}, ["f"], facts=[("f", "a", ("value", "c"))]), BadFact),
                (lambda: checked(ground, ("use", "x", "")), BadTerm),
                (lambda: part_at(ground, ("value", "a"), ""), NoPart)):
            with self.assertRaises(error):
                call()


class IntegersAndNames(unittest.TestCase):
    def test_true_and_false_are_no_integers(self):
        for truth in (True, False):
            with self.assertRaises(BadLetter):
                Ground({"x": truth})
            with self.assertRaises(NoPart):
                part_at(Ground({"x": 0}), ("and", ("value", "a"), ("value", "b")), (truth,))

    def test_names(self):
        ground = Ground({"x": 0})
        for name in NAMES:
            self.assertIn(name, Ground({name: 0}))
            self.assertEqual(checked(ground, ("value", name)), ("value", name))
        for name in NO_NAMES:
            with self.assertRaises(BadLetter):
                Ground({name: 0})
            with self.assertRaises(BadTerm):
                checked(ground, ("fail", name))


class TheLimits(unittest.TestCase):
    def ground(self, letters, facts):
        fixed = [name for name in letters if letters[name] == 2]
        values = ["a", "b", "c", "d", "e"]
        told = [(fixed[0], (one, other), ("value", "a")) for one in values for other in values][:facts]
        return Ground(letters, fixed, [], told)

    def test_the_largest_grounds_and_beyond(self):
        letters = {"abcdefgh": 0, "b": 1, "c": 0, "d": 1, "e": 2, "f": 2, "g": 2}
        ground = self.ground(letters, 6)
        self.assertEqual((len(ground), len(ground.facts())), (7, 6))
        self.assertEqual(len(Permits.full(ground)), 7 + 7 + 4 + 16 + 6)
        more = self.ground({**letters, "h": 0, "i": 0, "j": 1, "k": 2, "l": 0, "m": 0}, 20)
        self.assertEqual((len(more), len(more.facts())), (13, 20))
        self.assertEqual(len(Permits.full(more)), 13 + 13 + 9 + 81 + 36)

    def test_large_terms_and_beyond(self):
        ground = Ground({"x": 0})
        for many in (14, 40):
            term = ("use", "x", ())
            for _ in range(many - 1):
                term = ("not", term)
            self.assertEqual(size(ground, term), many)
            self.assertEqual(part_at(ground, term, (0,) * (many - 1)), ("use", "x", ()))
            with self.assertRaises(BadTerm) as caught:
                put_at(ground, term, (0,) * (many - 1), None)
            self.assertEqual(caught.exception.path, (0,) * (many - 1))

    def test_long_strings(self):
        ground, text = Ground({"x": 0}), "x" * 399 + "\n"
        with self.assertRaises(BadLetter):
            Ground({text: 0})
        with self.assertRaises(BadTerm):
            checked(ground, (text, ("value", "a")))
        with self.assertRaises(BadPermit):
            Permits(ground, [(text, "x")])
        self.assertNotIn(text, ground)


if __name__ == "__main__":
    unittest.main()
