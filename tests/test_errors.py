"""Point 3: the errors."""

import inspect
import unittest

from any_objects import any_objects
from freeworldrules import errors
from freeworldrules.errors import BadCommuting, BadFact, BadFixed, BadLetter, BadTerm, NoPart, NoRow, RuleError
from freeworldrules.grounds import Ground
from freeworldrules.permits import Permits
from freeworldrules.terms import part_at, put_at

ARGUMENTS = {
    "BadLetter": "key", "BadFixed": "index", "BadCommuting": "index", "BadFact": "index", "BadTerm": "path",
    "NoPart": "path", "BadPermit": "index", "NoRow": "row", "BadBits": "index", "BadRelation": "relation",
    "BadPlayer": "key", "Clash": "name", "BadRow": "index", "BadTold": "told", "NoSuch": "number",
    "BadName": "name", "Taken": "name", "Broken": "bits", "NoRule": "name", "BadNumber": "number",
    "Held": "name", "NotHeld": "name", "BadText": "place", "BadEvent": "event", "BadMark": "index",
    "BadFunction": "index", "NoFunction": "name", "BadRows": "index", "BadWeave": "index",
}

WITHOUT_ARGUMENTS = ["UnlikeGrounds", "UnlikeRows", "NoDeed", "UnlikeLibraries"]


class TheClasses(unittest.TestCase):
    def test_rule_error_stands_directly_under_value_error(self):
        self.assertEqual(RuleError.__bases__, (ValueError,))
        self.assertIsInstance(RuleError(), ValueError)

    def test_all_others_stand_directly_under_rule_error(self):
        for name in list(ARGUMENTS) + WITHOUT_ARGUMENTS:
            self.assertEqual(getattr(errors, name).__bases__, (RuleError,), name)

    def test_no_further_ones(self):
        names = [name for name, _ in inspect.getmembers(errors, inspect.isclass)]
        self.assertEqual(sorted(names), sorted(list(ARGUMENTS) + WITHOUT_ARGUMENTS + ["RuleError"]))

    def test_each_is_defined_in_its_file(self):
        for name in ["RuleError"] + list(ARGUMENTS) + WITHOUT_ARGUMENTS:
            self.assertEqual(getattr(errors, name).__module__, "freeworldrules.errors")


class WhatTheyKeep(unittest.TestCase):
    def test_any_object_as_it_is_by_place_and_by_name(self):
        for name, argument in ARGUMENTS.items():
            made = getattr(errors, name)
            for thing in any_objects():
                self.assertIs(getattr(made(thing), argument), thing)
                self.assertIs(getattr(made(**{argument: thing}), argument), thing)

    def test_those_without_arguments(self):
        for name in WITHOUT_ARGUMENTS + ["RuleError"]:
            with self.assertRaises(RuleError):
                raise getattr(errors, name)()

    def test_each_can_be_raised_and_caught(self):
        for name, argument in ARGUMENTS.items():
            thing = [name]
            with self.assertRaises(RuleError) as caught:
                raise getattr(errors, name)(thing)
            self.assertIs(getattr(caught.exception, argument), thing)

    def test_what_a_call_raises_keeps_what_was_passed_itself(self):
        ground = Ground({"x": 0})
        path = [7]
        with self.assertRaises(NoPart) as caught:
            part_at(ground, ("value", "a"), path)
        self.assertIs(caught.exception.path, path)
        row = ["fails", "x"]
        with self.assertRaises(NoRow) as caught:
            Permits(ground).without(row)
        self.assertIs(caught.exception.row, row)
        key = ("x", "y")
        with self.assertRaises(BadLetter) as caught:
            Ground({"x": 0, key: 0})
        self.assertIs(caught.exception.key, key)


class WhichIsFirst(unittest.TestCase):
    def test_of_a_ground(self):
        letters, fixed, commuting, facts = {"p": 2}, ["p"], ["p"], []
        for error, arguments in (
                (BadLetter, ({"P": 2}, None, None, None)),
                (BadFixed, (letters, None, None, None)),
                (BadCommuting, (letters, fixed, None, None)),
                (BadFact, (letters, fixed, commuting, None))):
            with self.assertRaises(error):
                Ground(*arguments)
        self.assertEqual(len(Ground(letters, fixed, commuting, facts)), 1)

    def test_of_terms(self):
        ground = Ground({"x": 0})
        term = ("not", ("use", "x", ()))
        for error, arguments in (
                (BadTerm, (3, 3, 3)),
                (NoPart, (term, 3, 3)),
                (NoPart, (term, (1,), ("value", "a"))),
                (BadTerm, (term, (0,), 3))):
            with self.assertRaises(error):
                put_at(ground, *arguments)
        with self.assertRaises(BadTerm):
            part_at(ground, ("not", 3), 3)

    def test_a_call_that_raises_changes_nothing(self):
        letters, rows, term, path = {"x": 0, "y": 3}, [("fails", "x"), ("fails", "y"), 3], ["not", ["no"]], [0, 0]
        with self.assertRaises(RuleError):
            Ground(letters)
        self.assertEqual(letters, {"x": 0, "y": 3})
        ground = Ground({"x": 0, "y": 0})
        with self.assertRaises(RuleError):
            Permits(ground, rows)
        self.assertEqual(rows, [("fails", "x"), ("fails", "y"), 3])
        with self.assertRaises(RuleError):
            put_at(ground, term, path, term)
        self.assertEqual((term, path), (["not", ["no"]], [0, 0]))
        permits = Permits(ground, [("fails", "x")])
        for call in (lambda: permits.without(("fails", "y")), lambda: permits.joined(Permits(Ground({"x": 0})))):
            with self.assertRaises(RuleError):
                call()
            self.assertEqual(permits.rows(), [("fails", "x")])


if __name__ == "__main__":
    unittest.main()
