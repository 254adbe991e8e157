"""Points 2 and 4, and the interface: how all is called, and what it is given."""

import importlib
import inspect
import unittest

from any_objects import NAMES, NO_NAMES
from freeworldrules.books import Book
from freeworldrules.desks import Desk
from freeworldrules.dropped import can_go, dropped, shortest
from freeworldrules.errors import BadBits, BadFact, BadLetter, BadPermit, BadPlayer, BadRow, BadTerm, NoPart
from freeworldrules.findings import counts, failures, known, may_stay, needless, never_more, unreached
from freeworldrules.grounds import Ground
from freeworldrules.libraries import Library
from freeworldrules.needs import breaking, compared, needs, never, weakest
from freeworldrules.orders import exchanges, first_order, hang, nth_order, order_number, orders, row_term
from freeworldrules.permits import Permits
from freeworldrules.players import permits_of, played
from freeworldrules.rules import classes, holds, is_parting, parting, ways, ways_of_two
from freeworldrules.runs import both, evaluations, questions, run
from freeworldrules.terms import checked, part_at, parts, put_at, size

# file, name, and the arguments as they are shown
FUNCTIONS = [
    ("terms", "checked", "(ground, thing)"),
    ("terms", "parts", "(ground, term)"),
    ("terms", "part_at", "(ground, term, path)"),
    ("terms", "put_at", "(ground, term, path, other)"),
    ("terms", "size", "(ground, term)"),
    ("grounds", "Ground", "(letters, fixed=(), commuting=(), facts=())"),
    ("permits", "Permits", "(ground, rows=())"),
    ("runs", "run", "(ground, permits, term, bits=())"),
    ("runs", "questions", "(ground, permits, term, bits=())"),
    ("runs", "evaluations", "(ground, permits, term, bits=())"),
    ("runs", "both", "(ground, permits, one, other, bits=())"),
    ("rules", "ways", "(ground, permits, term)"),
    ("rules", "ways_of_two", "(ground, permits, one, other)"),
    ("rules", "holds", "(ground, permits, one, other, relation='same')"),
    ("rules", "parting", "(ground, permits, one, other, relation='same')"),
    ("rules", "is_parting", "(ground, permits, one, other, relation, thing)"),
    ("rules", "classes", "(ground, permits, terms)"),
    ("needs", "breaking", "(ground, one, other, relation='same')"),
    ("needs", "weakest", "(ground, one, other, relation='same')"),
    ("needs", "needs", "(ground, one, other, relation='same')"),
    ("needs", "never", "(ground, one, other, relation='same')"),
    ("needs", "compared", "(ground, pairs, relation='same')"),
    ("players", "played", "(ground, term, players)"),
    ("players", "permits_of", "(ground, permits, players)"),
    ("findings", "known", "(ground, permits, term)"),
    ("findings", "failures", "(ground, permits, term)"),
    ("findings", "may_stay", "(ground, permits, term)"),
    ("findings", "unreached", "(ground, permits, term)"),
    ("findings", "needless", "(ground, permits, term)"),
    ("findings", "counts", "(ground, permits, term)"),
    ("findings", "never_more", "(ground, permits, one, other)"),
    ("orders", "hang", "(ground, permits)"),
    ("orders", "row_term", "(ground, row, pair)"),
    ("orders", "orders", "(ground, permits, row)"),
    ("orders", "first_order", "(ground, permits, row)"),
    ("orders", "nth_order", "(ground, permits, row, n)"),
    ("orders", "order_number", "(ground, permits, row, other)"),
    ("orders", "exchanges", "(ground, permits, row, other)"),
    ("dropped", "dropped", "(ground, row)"),
    ("dropped", "can_go", "(ground, permits, row)"),
    ("dropped", "shortest", "(ground, permits, row)"),
    ("books", "Book", "(ground, permits)"),
    ("desks", "Desk", "(ground, permits)"),
    ("texts", "written", "(ground, term)"),
    ("texts", "read", "(ground, text)"),
    ("events", "lets", "(ground, permits, term, event)"),
    ("events", "way_to", "(ground, permits, term, event)"),
    ("events", "letting", "(ground, term, event)"),
    ("events", "barring", "(ground, term, event)"),
    ("marks", "marks_of", "(ground)"),
    ("marks", "with_marks", "(ground, some)"),
    ("marks", "resting", "(ground, permits, one, other, relation='same')"),
    ("libraries", "Library", "(ground, functions=())"),
    ("libraries", "callers", "(library, name)"),
    ("libraries", "unlike", "(one, other, permits)"),
    ("rounds", "rounds", "(ground, permits, row, most=8)"),
    ("rounds", "is_schedule", "(ground, permits, row, thing)"),
    ("rounds", "chain", "(ground, permits, row)"),
    ("weaves", "serial", "(ground, permits, rows, weave)"),
    ("weaves", "ring", "(ground, permits, rows, weave)"),
    ("weaves", "weaves", "(ground, permits, rows)"),
    ("smallest", "alikes", "(ground, permits, term, most)"),
    ("smallest", "smallest", "(ground, permits, term, most)"),
]

METHODS = {
    Ground: {"letters": "(self)", "fixed": "(self)", "commuting": "(self)", "facts": "(self)",
             "__len__": "(self)", "__contains__": "(self, letter)", "__iter__": "(self)", "__eq__": "(self, other)"},
    Permits: {"rows": "(self)", "without": "(self, row)", "within": "(self, other)", "joined": "(self, other)",
              "common": "(self, other)", "full": "(ground)",
              "__len__": "(self)", "__contains__": "(self, row)", "__iter__": "(self)", "__eq__": "(self, other)"},
    Book: {"add": "(self, name, one, other)", "drop": "(self, name)", "rule": "(self, name)", "names": "(self)",
           "steps": "(self, term)", "forms": "(self, term, most)", "cheapest": "(self, term, most)"},
    Desk: {"watch": "(self, name, one, other, relation='same')", "unwatch": "(self, name)", "names": "(self)",
           "state": "(self, name)", "permits": "(self)", "allow": "(self, row)", "forbid": "(self, row)",
           "undo": "(self)", "again": "(self)", "would": "(self, rows)"},
    Library: {"functions": "(self)", "wide": "(self)", "inlined": "(self, term)", "permits": "(self, permits)",
              "changed": "(self, name, names, body)", "__eq__": "(self, other)"},
}


class TheInterface(unittest.TestCase):
    def test_functions_and_classes_with_their_arguments(self):
        for file, name, arguments in FUNCTIONS:
            thing = getattr(importlib.import_module("freeworldrules." + file), name)
            self.assertEqual(str(inspect.signature(thing)), arguments)
            self.assertEqual(thing.__module__, "freeworldrules." + file)

    def test_methods_stand_in_their_class(self):
        for owner, methods in METHODS.items():
            for name, arguments in methods.items():
                self.assertIn(name, vars(owner))
                self.assertEqual(str(inspect.signature(getattr(owner, name))), arguments)
        self.assertIsInstance(vars(Permits)["full"], staticmethod)

    def test_attributes_are_set_on_each_object(self):
        self.assertIn("ground", vars(Permits(Ground({"x": 0}))))
        self.assertIn("ground", vars(Library(Ground({"x": 0}))))


class ByPlaceAndByName(unittest.TestCase):
    def test_grounds(self):
        letters, facts = {"p": 2, "x": 0}, [("p", ("a", "b"), ("value", "c"))]
        by_place = Ground(letters, ["p"], ["p"], facts)
        self.assertEqual(by_place, Ground(letters=letters, fixed=["p"], commuting=["p"], facts=facts))
        self.assertEqual(by_place, Ground(facts=facts, commuting=["p"], fixed=["p"], letters=letters))
        self.assertEqual(Ground(letters, facts=()), Ground(letters, (), (), ()))

    def test_terms(self):
        ground, term, other = Ground({"x": 0}), ("not", ("use", "x", ())), ("value", "a")
        self.assertEqual(checked(ground=ground, thing=term), checked(ground, term))
        self.assertEqual(parts(ground=ground, term=term), parts(ground, term))
        self.assertEqual(size(ground=ground, term=term), size(ground, term))
        self.assertEqual(part_at(ground=ground, term=term, path=(0,)), part_at(ground, term, (0,)))
        self.assertEqual(put_at(ground=ground, term=term, path=(0,), other=other), put_at(ground, term, (0,), other))
        self.assertEqual(put_at(ground, other=other, path=(0,), term=term), ("not", other))

    def test_permits(self):
        ground, row = Ground({"x": 0}), ("fails", "x")
        permits = Permits(ground=ground, rows=[row])
        self.assertEqual(permits, Permits(ground, [row]))
        self.assertEqual(permits.without(row=row), permits.without(row))
        self.assertIs(permits.within(other=permits), True)
        self.assertEqual(permits.joined(other=permits), permits)
        self.assertEqual(permits.common(other=permits), permits)
        self.assertEqual(Permits.full(ground=ground), Permits.full(ground))


    ground = Ground({"x": 0, "y": 0, "f": 1, "pair": 2}, ["pair"])
    within = Permits(ground, [("fails", "x"), ("shows", "x", "y"), ("stays", "f")])
    one = ("then", ("use", "x", ()), ("try", ("use", "x", ()), ("use", "y", ())))
    other = ("then", ("use", "x", ()), ("use", "y", ()))

    def same(self, function, **arguments):
        """By place, by name, and by name the other way round."""
        told = function(*arguments.values())
        self.assertEqual(function(**arguments), told)
        self.assertEqual(function(**dict(reversed(arguments.items()))), told)
        first = list(arguments)[0]
        self.assertEqual(function(arguments[first], **{key: arguments[key] for key in list(arguments)[1:]}), told)
        return told

    def test_runs(self):
        for function in (run, questions, evaluations):
            for bits in ((), (1,), (0, 1)):
                self.same(function, ground=self.ground, permits=self.within, term=self.one, bits=bits)
            self.assertEqual(self.same(function, ground=self.ground, permits=self.within, term=self.one),
                             function(self.ground, self.within, self.one, ()))
        self.same(both, ground=self.ground, permits=self.within, one=self.one, other=self.other, bits=(0, 1))
        self.assertEqual(self.same(both, ground=self.ground, permits=self.within, one=self.one, other=self.other),
                         both(self.ground, self.within, self.one, self.other, ()))

    def test_rules_and_needs(self):
        of_two = {"ground": self.ground, "permits": self.within, "one": self.one, "other": self.other}
        self.same(ways, ground=self.ground, permits=self.within, term=self.one)
        self.same(ways_of_two, **of_two)
        for function in (holds, parting):
            told = [self.same(function, **of_two, relation=relation) for relation in ("same", "faults", "no worse")]
            self.assertEqual(self.same(function, **of_two), told[0])
        self.same(is_parting, **of_two, relation="same", thing=(0, 1))
        self.same(classes, ground=self.ground, permits=self.within, terms=[self.one, self.other, self.one])
        del of_two["permits"]
        for function in (breaking, weakest, needs, never):
            told = [self.same(function, **of_two, relation=relation) for relation in ("same", "faults", "no worse")]
            self.assertEqual(self.same(function, **of_two), told[0])
        pairs = [(self.one, self.other), (self.other, self.other)]
        self.assertEqual(self.same(compared, ground=self.ground, pairs=pairs),
                         self.same(compared, ground=self.ground, pairs=pairs, relation="same"))

    def test_players_and_findings(self):
        players = {"x": ((), ("use", "y", ())), "f": (("p",), ("name", "p"))}
        self.same(played, ground=self.ground, term=self.one, players=players)
        self.same(permits_of, ground=self.ground, permits=self.within, players=players)
        for function in (known, failures, may_stay, unreached, needless, counts):
            self.same(function, ground=self.ground, permits=self.within, term=self.one)
        self.same(never_more, ground=self.ground, permits=self.within, one=self.one, other=self.other)

    def test_orders_and_dropped_rows(self):
        of_row = {"ground": self.ground, "permits": Permits(self.ground), "row": ["y", "x"]}
        self.same(hang, ground=self.ground, permits=self.within)
        self.same(row_term, ground=self.ground, row=["x"], pair="pair")
        for function in (orders, first_order, can_go, shortest):
            self.same(function, **of_row)
        self.same(nth_order, **of_row, n=1)
        self.same(order_number, **of_row, other=["x", "y"])
        self.same(exchanges, **of_row, other=["x", "y"])
        self.same(dropped, ground=self.ground, row=["x", "x"])

    def test_books(self):
        book = Book(permits=self.within, ground=self.ground)
        book.add(other=self.one, name="same", one=self.one)
        book.add("not", ("not", ("not", ("not", ("use", "y", ())))), other=("not", ("use", "y", ())))
        term = ("not", ("not", ("not", ("value", "b"))))
        self.assertEqual(book.rule(name="same"), book.rule("same"))
        self.assertEqual(book.steps(term=term), book.steps(term))
        self.assertEqual(book.forms(most=2, term=term), book.forms(term, 2))
        self.assertEqual(book.cheapest(most=2, term=term), ("not", ("value", "b")))
        book.drop(name="same")
        self.assertEqual(book.names(), ["not"])


class ListsAndTuples(unittest.TestCase):
    def test_either_one_everywhere(self):
        for row in (list, tuple):
            ground = Ground({"p": 2, "x": 0}, row(["p"]), row(["p"]),
                            row([row(["p", row(["a", "b"]), row(["value", "c"])])]))
            self.assertEqual(ground.facts(), [("p", ("a", "b"), ("value", "c"))])
            self.assertEqual((ground.fixed(), ground.commuting()), (["p"], ["p"]))
            permits = Permits(ground, row([row(["fails", "x"])]))
            self.assertEqual(permits.rows(), [("fails", "x")])
            self.assertIn(row(["fails", "x"]), permits)
            self.assertEqual(len(permits.without(row(["fails", "x"]))), 0)
            use = row(["use", "p", row([row(["value", "a"]), row(["use", "x", row([])])])])
            self.assertEqual(checked(ground, use), ("use", "p", (("value", "a"), ("use", "x", ()))))
            self.assertEqual(part_at(ground, use, row([1])), ("use", "x", ()))
            self.assertEqual(put_at(ground, use, row([1]), row(["value", "b"]))[2], (("value", "a"), ("value", "b")))

    def test_either_one_everywhere_further_on(self):
        ground = Ground({"p": 2, "f": 1, "x": 0, "y": 0}, ["p"])
        x, a, v = ("use", "x", ()), ("value", "a"), ("name", "v")
        within = Permits(ground, [("fails", "x"), ("writes", "f")])
        told = []
        for row in (list, tuple):
            def rows(thing):
                return row([rows(part) for part in thing]) if isinstance(thing, (list, tuple)) else thing

            one, other = rows(("try", x, ("use", "f", (a,)))), rows(("bind", "v", x, v))
            book = Book(ground, within)
            book.add("r", rows(("bind", "v", x, v)), rows(x))
            told.append([
                run(ground, within, one, row([1])), questions(ground, within, one, row([1])),
                evaluations(ground, within, one, row([1])), both(ground, within, one, other, row([1, 0])),
                ways(ground, within, one), ways_of_two(ground, within, one, other), parting(ground, within, one, other),
                is_parting(ground, within, one, other, "same", row([1])), classes(ground, within, row([one, other])),
                breaking(ground, one, other), compared(ground, row([row([one, other]), row([one, one])])),
                played(ground, one, {"f": row([row(["w"]), rows(("not", ("name", "w")))])}),
                permits_of(ground, within, {"f": row([row(["w"]), rows(("not", ("name", "w")))])}),
                known(ground, within, other), unreached(ground, within, one), counts(ground, within, one),
                row_term(ground, row(["y", "x"]), "p"), orders(ground, within, row(["y", "x"])),
                first_order(ground, within, row(["y", "x"])), nth_order(ground, within, row(["y", "x"]), 1),
                order_number(ground, within, row(["y", "x"]), row(["x", "y"])),
                exchanges(ground, within, row(["y", "x"]), row(["x", "y"])), dropped(ground, row(["x", "x"])),
                can_go(ground, within, row(["x", "y"])), shortest(ground, within, row(["x", "y", "x"])),
                book.rule("r"), book.steps(other), book.forms(other, 3), book.cheapest(other, 3)])
        self.assertEqual(told[0], told[1])
        for one, other in zip(*told):
            self.assertIs(type(one), type(other))

    def test_no_string_is_a_list(self):
        ground = Ground({"p": 2, "f": 1, "x": 0}, ["p", "f"])
        within = Permits(ground)
        for call, error in (
                (lambda: Ground({"p": 2}, ["p"], facts=[("p", "ab", ("value", "c"))]), BadFact),
                (lambda: Ground({"f": 1}, ["f"], facts=[("f", "a", ("value", "c"))]), BadFact),
                (lambda: checked(ground, ("use", "x", "")), BadTerm),
                (lambda: part_at(ground, ("value", "a"), ""), NoPart),
                (lambda: run(ground, within, ("value", "a"), ""), BadBits),
                (lambda: classes(ground, within, ""), BadTerm),
                (lambda: compared(ground, ""), BadTerm),
                (lambda: permits_of(ground, within, {"x": ("", ("value", "a"))}), BadPlayer),
                (lambda: orders(ground, within, "x"), BadRow),
                (lambda: dropped(ground, ""), BadRow)):
            with self.assertRaises(error):
                call()


class IntegersAndNames(unittest.TestCase):
    def test_true_and_false_are_no_integers(self):
        for truth in (True, False):
            with self.assertRaises(BadLetter):
                Ground({"x": truth})
            with self.assertRaises(NoPart):
                part_at(Ground({"x": 0}), ("and", ("value", "a"), ("value", "b")), (truth,))

    def test_names(self):
        ground = Ground({"x": 0})
        for name in NAMES:
            self.assertIn(name, Ground({name: 0}))
            self.assertEqual(checked(ground, ("value", name)), ("value", name))
        for name in NO_NAMES:
            with self.assertRaises(BadLetter):
                Ground({name: 0})
            with self.assertRaises(BadTerm):
                checked(ground, ("fail", name))


class WhatIsPassed(unittest.TestCase):
    def test_stays_as_it_is(self):
        ground = Ground({"p": 2, "f": 1, "x": 0, "y": 0}, ["p"])
        within = Permits(ground, [("fails", "x"), ("shares", "f", "y")])
        rows = within.rows()

        def made():
            return [["try", ["use", "x", []], ["use", "f", [["value", "a"]]]], ["bind", "v", ["use", "x", []], ["name", "v"]],
                    [1, 0], {"f": [["w"], ["not", ["name", "w"]]]}, ["y", "x"]]

        one, other, bits, players, row = passed = made()
        for call in (
                lambda: evaluations(ground, within, one, bits), lambda: both(ground, within, one, other, bits),
                lambda: ways_of_two(ground, within, one, other), lambda: parting(ground, within, one, other),
                lambda: is_parting(ground, within, one, other, "same", bits), lambda: classes(ground, within, passed[:2]),
                lambda: weakest(ground, one, other), lambda: compared(ground, [[one, other], [other, one]]),
                lambda: played(ground, one, players), lambda: permits_of(ground, within, players),
                lambda: needless(ground, within, one), lambda: never_more(ground, within, one, other),
                lambda: row_term(ground, row, "p"), lambda: first_order(ground, within, row),
                lambda: exchanges(ground, within, row, row), lambda: dropped(ground, row),
                lambda: shortest(ground, within, row), lambda: Book(ground, within).add("r", one, one),
                lambda: Book(ground, within).forms(one, 4)):
            call()
            self.assertEqual(passed, made())
            self.assertEqual(within.rows(), rows)


class TheLimits(unittest.TestCase):
    def ground(self, letters, facts):
        fixed = [name for name in letters if letters[name] == 2]
        values = ["a", "b", "c", "d", "e"]
        told = [(fixed[0], (one, other), ("value", "a")) for one in values for other in values][:facts]
        return Ground(letters, fixed, [], told)

    def test_the_largest_grounds_and_beyond(self):
        letters = {"abcdefgh": 0, "b": 1, "c": 0, "d": 1, "e": 2, "f": 2, "g": 2}
        ground = self.ground(letters, 6)
        self.assertEqual((len(ground), len(ground.facts())), (7, 6))
        self.assertEqual(len(Permits.full(ground)), 7 + 7 + 4 + 16 + 6)
        more = self.ground({**letters, "h": 0, "i": 0, "j": 1, "k": 2, "l": 0, "m": 0}, 20)
        self.assertEqual((len(more), len(more.facts())), (13, 20))
        self.assertEqual(len(Permits.full(more)), 13 + 13 + 9 + 81 + 36)

    def test_large_terms_and_beyond(self):
        ground = Ground({"x": 0})
        for many in (14, 40):
            term = ("use", "x", ())
            for _ in range(many - 1):
                term = ("not", term)
            self.assertEqual(size(ground, term), many)
            self.assertEqual(part_at(ground, term, (0,) * (many - 1)), ("use", "x", ()))
            with self.assertRaises(BadTerm) as caught:
                put_at(ground, term, (0,) * (many - 1), None)
            self.assertEqual(caught.exception.path, (0,) * (many - 1))

    def test_runs_and_rules_of_the_largest_terms_and_beyond(self):
        ground = self.ground({"abcdefgh": 0, "b": 1, "c": 0, "d": 1, "e": 2, "f": 2, "g": 2}, 6)
        full = Permits.full(ground)
        a, x, c = ("value", "a"), ("use", "abcdefgh", ()), ("use", "c", ())
        one = ("then", ("try", x, ("use", "b", (a,))), ("if", c, ("use", "e", (a, a)), ("try", ("use", "d", (a,)), a)))
        other = ("if", ("try", c, a), ("try", x, a), ("last", c, ("not", a)))
        self.assertEqual((size(ground, one), size(ground, other)), (14, 11))
        for term in (one, ("try", one, other)):
            told = ways(ground, full, term)
            self.assertGreater(len(told), 14)
            self.assertIs(holds(ground, full, term, term), True)
            self.assertEqual(parting(ground, full, term, a), ())
            self.assertIsNone(known(ground, full, term))
            # what last drops, in the second term alone
            self.assertEqual(needless(ground, full, term), [(1, 2, 1), (1, 2, 1, 0)] if term != one else [])
            self.assertIs(may_stay(ground, full, term), True)
        self.assertIs(holds(ground, full, one, other), False)

    def test_two_terms_of_many_ways(self):
        ground = Ground({"x": 0, "y": 0, "z": 0, "w": 0})
        full = Permits.full(ground)
        x, y, z, w = [("use", letter, ()) for letter in ground]
        one = ("last", ("last", ("or", x, y), ("and", z, w)), ("not", x))
        self.assertGreater(len(ways_of_two(ground, full, one, ("last", ("and", w, z), ("or", y, x)))), 300)
        self.assertIs(holds(ground, full, one, one), True)

    def test_what_a_rule_needs_at_the_limits(self):
        ground = Ground({"x": 0, "y": 1, "z": 2, "p": 2, "q": 1, "r": 2, "s": 0}, ["p", "q", "r", "s"], ["p"],
                        [("q", (name,), ("fail", "e")) for name in "abcdef"])
        x, a = ("use", "x", ()), ("value", "a")
        y, z = ("use", "y", (a,)), ("use", "z", (a, a))
        one, other = ("then", ("try", x, a), ("then", ("try", y, a), z)), ("then", ("try", y, a), ("then", ("try", x, a), z))
        self.assertEqual((size(ground, one), len(Permits.full(ground))), (12, 7 + 7 + 3 + 9 + 3))
        least, most = breaking(ground, one, other), weakest(ground, one, other)
        self.assertEqual((len(least), len(most)), (len(breaking(ground, other, one)), len(weakest(ground, other, one))))
        for permits in most:
            self.assertTrue(holds(ground, permits, one, other))
        self.assertEqual((len(least), len(most)), (5, 3))

    def test_long_strings(self):
        ground, text = Ground({"x": 0}), "x" * 399 + "\n"
        with self.assertRaises(BadLetter):
            Ground({text: 0})
        with self.assertRaises(BadTerm):
            checked(ground, (text, ("value", "a")))
        with self.assertRaises(BadPermit):
            Permits(ground, [(text, "x")])
        self.assertNotIn(text, ground)


if __name__ == "__main__":
    unittest.main()
