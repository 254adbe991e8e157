"""Points 5 and 6: grounds."""

import unittest

from any_objects import NAMES, NO_NAMES, any_objects
from freeworldrules.errors import BadCommuting, BadFact, BadFixed, BadLetter
from freeworldrules.grounds import Ground

LETTERS = {"x": 0, "plus": 2, "y": 1, "zero": 0, "minus": 2, "not": 1}
FIXED = ["zero", "plus", "not", "minus"]
COMMUTING = ["minus", "plus"]
FACTS = [
    ("plus", ("a", "b"), ("value", "c")),
    ("zero", (), ("value", "a")),
    ("not", ("a",), ("fail", "bad")),
]


def ground():
    return Ground(LETTERS, FIXED, COMMUTING, FACTS)


class Raising(unittest.TestCase):
    def raised(self, error, *arguments):
        with self.assertRaises(error) as caught:
            Ground(*arguments)
        return caught.exception


class WrongLetters(Raising):
    def test_none_for_no_dict(self):
        for thing in any_objects():
            if not isinstance(thing, dict):
                self.assertIsNone(self.raised(BadLetter, thing).key)

    def test_none_for_no_letters(self):
        self.assertIsNone(self.raised(BadLetter, {}).key)

    def test_pairs_are_no_dict(self):
        self.assertIsNone(self.raised(BadLetter, [("x", 0)]).key)

    def test_keys_that_are_no_names(self):
        for key in NO_NAMES + [0, 1, True, None, (), ("x",), (0, "x")]:
            self.assertEqual(self.raised(BadLetter, {"a": 0, key: 0, "A": 5}).key, key)

    def test_values_that_are_none_of_these_numbers(self):
        for value in any_objects():
            if value is True or not isinstance(value, int) or value not in (0, 1, 2):
                self.assertEqual(self.raised(BadLetter, {"x": 1, "y": value, "z": value}).key, "y")
        self.assertEqual(self.raised(BadLetter, {"x": False}).key, "x")

    def test_the_first_key_in_order(self):
        self.assertEqual(self.raised(BadLetter, {"b": 0, "c": 3, "A": 0, "d": -1}).key, "c")
        self.assertEqual(self.raised(BadLetter, {"b": 0, "A": 0, "c": 3}).key, "A")

    def test_all_numbers_and_names_that_are_right(self):
        for name in NAMES:
            for many in (0, 1, 2):
                self.assertEqual(Ground({name: many}).letters(), {name: many})


class WrongFixed(Raising):
    def test_no_list(self):
        for thing in any_objects():
            if not isinstance(thing, (list, tuple)):
                self.assertEqual(self.raised(BadFixed, {"x": 0, "y": 0}, thing).index, 0)

    def test_things_that_are_no_letters(self):
        for thing in any_objects() + ["plus", "xy"]:
            if thing not in ("x", "y"):
                self.assertEqual(self.raised(BadFixed, {"x": 0, "y": 0}, ["y", thing, thing]).index, 1)

    def test_a_letter_twice(self):
        self.assertEqual(self.raised(BadFixed, {"x": 0, "y": 0}, ["y", "x", "y", 3]).index, 2)


class WrongCommuting(Raising):
    def test_no_list(self):
        for thing in any_objects():
            if not isinstance(thing, (list, tuple)):
                self.assertEqual(self.raised(BadCommuting, LETTERS, FIXED, thing).index, 0)

    def test_things_that_are_no_such_letters(self):
        for thing in any_objects() + ["x", "y", "zero", "not", "times"]:
            self.assertEqual(self.raised(BadCommuting, LETTERS, FIXED, ["plus", thing, thing]).index, 1)

    def test_a_letter_with_two_parts_that_is_not_fixed(self):
        self.assertEqual(self.raised(BadCommuting, {"p": 2, "q": 2}, ["q"], ["q", "p"]).index, 1)

    def test_a_letter_twice(self):
        self.assertEqual(self.raised(BadCommuting, LETTERS, FIXED, ["plus", "minus", "plus"]).index, 2)


class WrongFacts(Raising):
    def place(self, *facts):
        return self.raised(BadFact, LETTERS, FIXED, COMMUTING, list(facts)).index

    def test_no_list(self):
        for thing in any_objects():
            if not isinstance(thing, (list, tuple)):
                self.assertEqual(self.raised(BadFact, LETTERS, FIXED, COMMUTING, thing).index, 0)

    def test_things_that_are_no_facts(self):
        for thing in any_objects():
            self.assertEqual(self.place(FACTS[0], thing, thing), 1)

    def test_wrong_letters(self):
        for letter in any_objects() + ["times"]:
            self.assertEqual(self.place((letter, (), ("value", "a"))), 0)

    def test_a_letter_that_is_not_fixed(self):
        self.assertEqual(self.place(("x", (), ("value", "a"))), 0)
        self.assertEqual(self.place(("y", ("a",), ("value", "a"))), 0)

    def test_wrong_values(self):
        for values in any_objects():
            if values not in (["x"], ["fails"], ("value",)):
                self.assertEqual(self.place(FACTS[0], ("not", values, ("value", "a"))), 1)
            if values != ("x", "y"):
                self.assertEqual(self.place(("plus", values, ("value", "a"))), 0)
            if values != [] and values != ():
                self.assertEqual(self.place(("zero", values, ("value", "a"))), 0)

    def test_values_that_are_no_names(self):
        for value in NO_NAMES + [0, None, True, ["a"], {}]:
            self.assertEqual(self.place(("plus", ("a", value), ("value", "a"))), 0)
            self.assertEqual(self.place(("not", (value,), ("value", "a"))), 0)

    def test_wrong_ends(self):
        for end in any_objects() + [("value", "a", "b"), ("name", "a"), ("fails", "a"), ("value",), "value"]:
            self.assertEqual(self.place(("zero", (), end)), 0)
        for name in NO_NAMES + [0, None, True, ["a"], {}]:
            self.assertEqual(self.place(("zero", (), ("value", name))), 0)
            self.assertEqual(self.place(("zero", (), ("fail", name))), 0)
            self.assertEqual(self.place(("zero", (), (name, "a"))), 0)

    def test_a_wrong_number_of_things(self):
        self.assertEqual(self.place(("zero", ())), 0)
        self.assertEqual(self.place(("zero", (), ("value", "a"), ())), 0)

    def test_told_twice(self):
        for letter, values, end in FACTS:
            for other in (end, ("value", "d"), ("fail", "d")):
                self.assertEqual(self.place(*FACTS, (letter, values, other)), 3)

    def test_told_twice_with_exchanged_values(self):
        self.assertEqual(self.place(("plus", ("a", "b"), ("value", "c")), ("plus", ("b", "a"), ("value", "c"))), 1)
        self.assertEqual(self.place(("plus", ("b", "a"), ("value", "c")), ["plus", ["a", "b"], ["value", "d"]]), 1)

    def test_exchanged_values_are_others_if_the_letter_does_not_commute(self):
        facts = [("plus", ("a", "b"), ("value", "c")), ("plus", ("b", "a"), ("value", "d"))]
        self.assertEqual(Ground(LETTERS, FIXED, ["minus"], facts).facts(), facts)

    def test_the_same_values_for_another_letter(self):
        facts = [("plus", ("a", "b"), ("value", "c")), ("minus", ("b", "a"), ("value", "c"))]
        self.assertEqual(Ground(LETTERS, FIXED, COMMUTING, facts).facts(), facts)

    def test_the_first_one(self):
        self.assertEqual(self.place(FACTS[1], FACTS[2], FACTS[1], 3), 2)
        self.assertEqual(self.place(FACTS[1], 3, FACTS[1]), 1)


class Told(unittest.TestCase):
    def test_letters_in_their_order(self):
        self.assertEqual(list(ground().letters().items()), list(LETTERS.items()))

    def test_fixed_and_commuting_in_the_order_of_letters(self):
        self.assertEqual(ground().fixed(), ["plus", "zero", "minus", "not"])
        self.assertEqual(ground().commuting(), ["plus", "minus"])

    def test_facts_as_told(self):
        self.assertEqual(ground().facts(), FACTS)
        self.assertEqual(Ground(LETTERS, FIXED, COMMUTING, FACTS[::-1]).facts(), FACTS[::-1])
        self.assertEqual(Ground(LETTERS, FIXED, COMMUTING, [["plus", ["b", "a"], ["fail", "c"]]]).facts(),
                         [("plus", ("b", "a"), ("fail", "c"))])

    def test_nothing_but_letters(self):
        bare = Ground({"x": 0})
        self.assertEqual((bare.letters(), bare.fixed(), bare.commuting(), bare.facts()), ({"x": 0}, [], [], []))

    def test_kinds(self):
        told = Ground(LETTERS, tuple(FIXED), tuple(COMMUTING), tuple(FACTS))
        self.assertIs(type(told.letters()), dict)
        for row in (told.fixed(), told.commuting(), told.facts()):
            self.assertIs(type(row), list)

    def test_what_is_told_is_new(self):
        told = ground()
        told.letters()["other"] = 0
        for row in (told.fixed(), told.commuting(), told.facts()):
            row.clear()
        self.assertEqual(told, ground())
        self.assertEqual(told.facts(), FACTS)

    def test_what_is_changed_behind(self):
        letters, fixed, commuting = {"p": 2, "x": 0}, ["p"], ["p"]
        facts = [["p", ["a", "b"], ["value", "c"]]]
        told = Ground(letters, fixed, commuting, facts)
        facts[0][1][0] = facts[0][2][1] = "d"
        facts.append(3)
        letters["y"] = 1
        letters["p"] = 1
        fixed.append("x")
        commuting.clear()
        self.assertEqual(list(told.letters().items()), [("p", 2), ("x", 0)])
        self.assertEqual((told.fixed(), told.commuting()), (["p"], ["p"]))
        self.assertEqual(told.facts(), [("p", ("a", "b"), ("value", "c"))])
        self.assertEqual((len(told), list(told), "y" in told), (2, ["p", "x"], False))

    def test_passed_things_stay(self):
        letters, fixed, commuting, facts = dict(LETTERS), list(FIXED), list(COMMUTING), list(FACTS)
        Ground(letters, fixed, commuting, facts)
        self.assertEqual(list(letters.items()), list(LETTERS.items()))
        self.assertEqual((fixed, commuting, facts), (FIXED, COMMUTING, FACTS))


class AsAContainer(unittest.TestCase):
    def test_len(self):
        self.assertEqual(len(ground()), 6)
        self.assertEqual(len(Ground({"x": 2})), 1)

    def test_in(self):
        for letter in LETTERS:
            self.assertIn(letter, ground())
        for thing in any_objects() + ["a", "pl", "xx"]:
            self.assertIs(thing in ground(), thing in ("x", "y"))

    def test_walking(self):
        self.assertEqual(list(ground()), list(LETTERS))
        self.assertEqual([letter for letter in Ground({"b": 0, "a": 0})], ["b", "a"])


class Equal(unittest.TestCase):
    def test_equal_ones(self):
        self.assertTrue(ground() == ground())
        self.assertFalse(ground() != ground())
        self.assertEqual(ground(), Ground(dict(LETTERS), tuple(FIXED[::-1]), COMMUTING[::-1],
                                          [[letter, list(values), list(end)] for letter, values, end in FACTS]))

    def test_unlike_ones(self):
        others = [
            Ground({**LETTERS, "x": 1}, FIXED, COMMUTING, FACTS),
            Ground({**LETTERS, "other": 0}, FIXED, COMMUTING, FACTS),
            Ground({name: LETTERS[name] for name in sorted(LETTERS)}, FIXED, COMMUTING, FACTS),
            Ground(LETTERS, FIXED + ["x"], COMMUTING, FACTS),
            Ground(LETTERS, FIXED, ["plus"], FACTS),
            Ground(LETTERS, FIXED, COMMUTING, FACTS[:2]),
            Ground(LETTERS, FIXED, COMMUTING, FACTS[::-1]),
            Ground(LETTERS, FIXED, COMMUTING, [("plus", ("b", "a"), ("value", "c"))] + FACTS[1:]),
        ]
        for other in others:
            self.assertFalse(ground() == other)
            self.assertFalse(other == ground())
            self.assertTrue(ground() != other)

    def test_letters_in_another_order(self):
        self.assertNotEqual(Ground({"x": 0, "y": 0}), Ground({"y": 0, "x": 0}))
        self.assertNotEqual(Ground({"x": 0, "y": 0, "k": 0}, ["k"]), Ground({"x": 0, "k": 0, "y": 0}, ["k"]))

    def test_nothing_else(self):
        for thing in any_objects() + [dict(LETTERS), list(LETTERS)]:
            self.assertFalse(ground() == thing)
            self.assertTrue(ground() != thing)


if __name__ == "__main__":
    unittest.main()
