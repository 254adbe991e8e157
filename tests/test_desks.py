"""Point 36: desks, their deeds and the news."""

import copy
import random
import unittest

from any_objects import NAMES, NO_NAMES, any_objects
from freeworldrules.desks import Desk
from freeworldrules.errors import (BadName, BadPermit, BadRelation, BadTerm, Held, NoDeed, NoRow, NotHeld,
                                   UnlikeGrounds)
from freeworldrules.grounds import Ground
from freeworldrules.permits import Permits
from freeworldrules.rules import holds
from model import random_term
from test_rules import NO_RELATIONS

GROUND = Ground({"x": 0, "y": 0, "k": 1}, ["k"], facts=[("k", ("a",), ("fail", "bad"))])

X, Y, A = ("use", "x", ()), ("use", "y", ()), ("value", "a")

# rules that hold as long as x, or y, does nothing; and as long as x shows y nothing
DROP_X, DROP_Y = (("then", X, A), A), (("then", Y, A), A)
BEHIND = (("then", X, Y), ("bind", "v", Y, ("then", X, ("name", "v"))))


def desk_with(rows=(), **rules):
    desk = Desk(GROUND, Permits(GROUND, rows))
    for name, (one, other) in rules.items():
        desk.watch(name, one, other)
    return desk


def told_of(desk):
    """All that a desk tells without being changed."""
    return desk.names(), [desk.state(name) for name in desk.names()], desk.permits()


class Watching(unittest.TestCase):
    def test_names_and_states(self):
        desk = desk_with([("writes", "y")], dropy=DROP_Y, dropx=DROP_X)
        self.assertEqual(desk.names(), ["dropx", "dropy"])
        self.assertIs(desk.state("dropx"), True)
        self.assertIs(desk.state("dropy"), False)
        self.assertIsNone(desk.unwatch("dropx"))
        self.assertEqual(desk.names(), ["dropy"])
        self.assertIsNone(desk.watch("dropx", X, Y))
        self.assertIs(desk.state("dropx"), False)

    def test_all_names(self):
        desk = desk_with()
        for name in NAMES:
            desk.watch(name, A, A)
        self.assertEqual(desk.names(), sorted(NAMES))

    def test_relations(self):
        desk = desk_with([("fails", "x")])
        one, other = ("try", X, ("fail", "e")), ("try", X, ("fail", "f"))
        desk.watch("same", one, other)
        desk.watch("again", one, other, "same")
        desk.watch("faults", one, other, "faults")
        desk.watch("noworse", one, ("try", X, A), "no worse")
        self.assertEqual([desk.state(name) for name in desk.names()], [False, True, True, False])
        self.assertEqual(desk.forbid(("fails", "x")), [("again", True), ("same", True)])

    def test_no_rules_at_all(self):
        desk = desk_with()
        self.assertEqual(desk.names(), [])
        self.assertEqual(desk.allow(("fails", "x")), [])
        self.assertEqual(desk.undo(), [])


class Deeds(unittest.TestCase):
    def test_allow_and_forbid_change_the_permits(self):
        desk = desk_with()
        desk.allow(("shows", "x", "y"))
        self.assertEqual(desk.permits(), Permits(GROUND, [("shows", "x", "y")]))
        desk.allow(("shares", "y", "x"))
        self.assertEqual(desk.permits(), Permits(GROUND, [("shows", "x", "y"), ("shares", "x", "y")]))
        desk.forbid(("writes", "x"))
        self.assertEqual(desk.permits().rows(), [("fails", "k"), ("writes", "y")])
        self.assertIs(type(desk.permits()), Permits)

    def test_news(self):
        desk = desk_with(dropy=DROP_Y, dropx=DROP_X, xy=BEHIND)
        self.assertEqual(desk.allow(("fails", "x")), [("dropx", False)])
        self.assertEqual(desk.allow(("stays", "x")), [])
        self.assertEqual(desk.forbid(("fails", "x")), [])
        self.assertEqual(desk.forbid(("stays", "x")), [("dropx", True)])

    def test_news_of_several_rules_by_one_deed(self):
        desk = desk_with(zz=DROP_X, a=DROP_X, dropy=DROP_Y, xy=BEHIND)
        self.assertEqual(desk.allow(("shows", "x", "y")), [("a", False), ("xy", False), ("zz", False)])
        self.assertEqual(desk.forbid(("writes", "x")), [("a", True), ("xy", True), ("zz", True)])
        self.assertEqual(desk.would([("fails", "y"), ("fails", "x")]),
                         [("a", False), ("dropy", False), ("xy", False), ("zz", False)])

    def test_news_are_pairs_in_a_new_list(self):
        desk = desk_with(dropx=DROP_X)
        for call in (lambda: desk.allow(("fails", "x")), desk.undo, desk.again, lambda: desk.forbid(["fails", "x"])):
            told = call()
            self.assertIs(type(told), list)
            self.assertEqual([(type(row), type(row[1])) for row in told], [(tuple, bool)])
            told.append("more")
        told = desk.names()
        told.append("more")
        self.assertEqual(desk.names(), ["dropx"])
        self.assertEqual(desk.would([("fails", "x")]), [("dropx", False)])
        desk.would([("fails", "x")]).clear()
        self.assertEqual(desk.would([("fails", "x")]), [("dropx", False)])

    def test_undo_and_again_up_to_both_ends(self):
        desk = desk_with(dropx=DROP_X, dropy=DROP_Y)
        seen = [desk.permits()]
        for row in (("fails", "x"), ("fails", "y"), ("writes", "x")):
            desk.allow(row)
            seen.append(desk.permits())
        for place, news in ((2, []), (1, [("dropy", True)]), (0, [("dropx", True)])):
            self.assertEqual(desk.undo(), news)
            self.assertEqual(desk.permits(), seen[place])
        with self.assertRaises(NoDeed):
            desk.undo()
        for place, news in ((1, [("dropx", False)]), (2, [("dropy", False)]), (3, [])):
            self.assertEqual(desk.again(), news)
            self.assertEqual(desk.permits(), seen[place])
        with self.assertRaises(NoDeed):
            desk.again()
        self.assertEqual(desk.permits(), seen[3])

    def test_undo_brings_back_all_that_went_with_a_row(self):
        desk = desk_with([("shows", "x", "y"), ("shares", "x", "y")])
        before = desk.permits()
        desk.forbid(("writes", "x"))
        self.assertEqual(len(desk.permits()), 2)
        desk.undo()
        self.assertEqual(desk.permits(), before)
        desk.again()
        self.assertEqual(desk.permits().rows(), [("fails", "k"), ("writes", "y")])

    def test_none_to_take_back(self):
        desk = desk_with()
        for call in (desk.undo, desk.again):
            with self.assertRaises(NoDeed):
                call()
        desk.watch("drop", *DROP_X)
        desk.unwatch("drop")
        with self.assertRaises(NoDeed):
            desk.undo()

    def test_a_new_deed_behind_an_undo(self):
        desk = desk_with()
        desk.allow(("fails", "x"))
        desk.allow(("fails", "y"))
        desk.undo()
        desk.allow(("stays", "x"))
        with self.assertRaises(NoDeed):
            desk.again()
        desk.undo()
        self.assertEqual(desk.permits(), Permits(GROUND, [("fails", "x")]))
        self.assertEqual(desk.again(), [])
        self.assertEqual(desk.permits(), Permits(GROUND, [("fails", "x"), ("stays", "x")]))

    def test_what_changes_no_row_is_no_deed(self):
        desk = desk_with([("shows", "x", "y")])
        for row in (("shows", "x", "y"), ("writes", "x"), ("fails", "k")):
            self.assertEqual(desk.allow(row), [])
            with self.assertRaises(NoDeed):
                desk.undo()
        desk.allow(("fails", "x"))
        desk.undo()
        self.assertEqual(desk.allow(("writes", "x")), [])
        self.assertEqual(desk.would([("fails", "x")]), [])
        desk.watch("drop", *DROP_X)
        # it can still be done again
        self.assertEqual(desk.again(), [])
        self.assertIn(("fails", "x"), desk.permits())

    def test_what_raises_is_no_deed(self):
        desk = desk_with(drop=DROP_X)
        desk.allow(("fails", "x"))
        desk.undo()
        before = told_of(desk)
        for call in (lambda: desk.allow(("fails", "q")), lambda: desk.forbid(("stays", "x")),
                     lambda: desk.would([("fails", "q")]), lambda: desk.undo()):
            with self.assertRaises((BadPermit, NoRow, NoDeed)):
                call()
        self.assertEqual(told_of(desk), before)
        self.assertEqual(desk.again(), [("drop", False)])

    def test_rules_that_are_watched_later_on(self):
        desk = desk_with(first=DROP_X)
        desk.allow(("fails", "x"))
        desk.watch("second", *DROP_X)
        desk.unwatch("first")
        self.assertEqual(desk.undo(), [("second", True)])
        desk.watch("first", *DROP_Y)
        self.assertEqual(desk.again(), [("second", False)])

    def test_would_does_nothing(self):
        desk = desk_with(drop=DROP_X, xy=BEHIND, dropy=DROP_Y)
        before = told_of(desk)
        self.assertEqual(desk.would([("shares", "y", "x")]), [("drop", False), ("dropy", False), ("xy", False)])
        self.assertEqual(desk.would([("shows", "x", "y"), ("shows", "x", "y")]), [("drop", False), ("xy", False)])
        self.assertEqual(desk.would([]), [])
        self.assertEqual(desk.would(()), [])
        self.assertEqual(told_of(desk), before)
        with self.assertRaises(NoDeed):
            desk.undo()

    def test_two_desks_do_not_change_one_another(self):
        permits = Permits(GROUND)
        one, other = Desk(GROUND, permits), Desk(GROUND, permits)
        one.watch("drop", *DROP_X)
        one.allow(("fails", "x"))
        self.assertEqual(other.names(), [])
        self.assertEqual(other.permits(), Permits(GROUND))
        self.assertEqual(permits, Permits(GROUND))


class ByChance(unittest.TestCase):
    def test_desks_are_as_rules_within_their_permits(self):
        chance = random.Random(36)
        for _ in range(30):
            permits = Permits(GROUND, chance.sample(Permits.full(GROUND).rows(), 3))
            desk = Desk(GROUND, permits)
            rules = {name: (random_term(chance, GROUND, 5), random_term(chance, GROUND, 5)) for name in "abc"}
            for name, rule in rules.items():
                desk.watch(name, *rule)
            done, gone = [], []
            for _ in range(12):
                before = desk.permits()
                states = {name: desk.state(name) for name in rules}
                word = chance.choice(["allow", "forbid", "undo", "again"])
                try:
                    if word in ("allow", "forbid"):
                        row = chance.choice(Permits.full(GROUND).rows())
                        news = getattr(desk, word)(row)
                        if desk.permits() != before:
                            done, gone = done + [before], []
                    else:
                        news = getattr(desk, word)()
                        self.assertEqual(desk.permits(), (done if word == "undo" else gone)[-1])
                        (done if word == "undo" else gone).pop()
                        (gone if word == "undo" else done).append(before)
                except NoRow:
                    self.assertTrue(row not in before or row == ("fails", "k"))
                    continue
                except NoDeed:
                    self.assertEqual(done if word == "undo" else gone, [])
                    continue
                now = {name: holds(GROUND, desk.permits(), *rule) for name, rule in rules.items()}
                self.assertEqual(news, [(name, now[name]) for name in "abc" if now[name] != states[name]])
                self.assertEqual([desk.state(name) for name in "abc"], list(now.values()))


class WrongThings(unittest.TestCase):
    def test_permits_of_another_ground(self):
        with self.assertRaises(UnlikeGrounds):
            Desk(GROUND, Permits(Ground({"x": 0, "y": 0, "k": 1}, ["k"])))

    def test_names_of_rules(self):
        desk = desk_with(drop=DROP_X)
        for name in any_objects() + NO_NAMES:
            if not (isinstance(name, str) and name in NAMES + ["x", "y", "fails"]):
                with self.assertRaises(BadName) as caught:
                    # the terms and the relation are wrong, too
                    desk.watch(name, None, None, None)
                self.assertIs(caught.exception.name, name)
        with self.assertRaises(Held) as caught:
            desk.watch("drop", None, None, None)
        self.assertEqual(caught.exception.name, "drop")
        self.assertEqual(desk.names(), ["drop"])

    def test_names_that_are_not_watched(self):
        desk = desk_with(drop=DROP_X)
        for name in any_objects() + NO_NAMES + ["dro", "dropx"]:
            for call in (desk.unwatch, desk.state):
                with self.assertRaises(NotHeld) as caught:
                    call(name)
                self.assertIs(caught.exception.name, name)
        self.assertEqual(desk.names(), ["drop"])

    def test_terms_and_relations(self):
        desk = desk_with()
        for thing in any_objects():
            with self.assertRaises(BadTerm) as caught:
                desk.watch("r", ("not", thing), None, None)
            self.assertEqual(caught.exception.path, (0,))
            with self.assertRaises(BadTerm) as caught:
                desk.watch("r", A, ("and", A, thing), None)
            self.assertEqual(caught.exception.path, (1,))
        for relation in any_objects() + NO_RELATIONS:
            with self.assertRaises(BadRelation) as caught:
                desk.watch("r", A, A, relation)
            self.assertIs(caught.exception.relation, relation)
        self.assertEqual(desk.names(), [])

    def test_permissions(self):
        desk = desk_with([("fails", "x")])
        wrong = any_objects() + [("fails", "q"), ("writes", "k"), ("shares", "x", "x"), ("shows", "x", "k"), "fails"]
        for row in wrong:
            with self.assertRaises(BadPermit) as caught:
                desk.allow(row)
            self.assertEqual(caught.exception.index, 0)
            with self.assertRaises(NoRow) as caught:
                desk.forbid(row)
            self.assertIs(caught.exception.row, row)
            with self.assertRaises(BadPermit) as caught:
                desk.would([("fails", "x"), ("shares", "y", "x"), row, None])
            self.assertEqual(caught.exception.index, 2)
        # a permission that is not let, and one that is always let
        for row in (("stays", "x"), ("fails", "k")):
            with self.assertRaises(NoRow):
                desk.forbid(row)
        self.assertEqual(desk.permits(), Permits(GROUND, [("fails", "x")]))

    def test_rows_that_are_no_list(self):
        desk = desk_with()
        for rows in any_objects() + ["fails"]:
            if not isinstance(rows, (list, tuple)):
                with self.assertRaises(BadPermit) as caught:
                    desk.would(rows)
                self.assertEqual(caught.exception.index, 0)


class WhatIsPassed(unittest.TestCase):
    def test_terms_that_are_changed_behind(self):
        desk = desk_with()
        one, other = ["then", ["use", "x", []], ["value", "a"]], ["value", "a"]
        desk.watch("drop", one, other)
        one[2][1], other[0], one[1] = "b", "nothing", None
        self.assertEqual(desk.allow(["fails", "x"]), [("drop", False)])
        self.assertEqual(desk.undo(), [("drop", True)])

    def test_nothing_is_changed(self):
        one, other, rows, row = ["then", ["use", "x", []], ["value", "a"]], ["value", "a"], [["fails", "x"]], ["stays", "x"]
        passed = copy.deepcopy((one, other, rows, row))
        permits = Permits(GROUND)
        desk = Desk(GROUND, permits)
        desk.watch("drop", one, other)
        desk.would(rows)
        desk.allow(row)
        desk.forbid(row)
        self.assertEqual((one, other, rows, row), passed)
        self.assertEqual(permits, Permits(GROUND))

    def test_lists_and_tuples(self):
        told = []
        for row in (list, tuple):
            desk = desk_with()
            desk.watch("drop", row(["then", row(["use", "x", row([])]), row(["value", "a"])]), row(["value", "a"]))
            told.append([desk.would(row([row(["shares", "y", "x"])])), desk.allow(row(["shares", "y", "x"])),
                         desk.forbid(row(["shares", "y", "x"])), desk.permits()])
        self.assertEqual(told[0], told[1])
        self.assertEqual(told[0][:3], [[("drop", False)], [("drop", False)], []])

    def test_by_name(self):
        desk = Desk(permits=Permits(GROUND), ground=GROUND)
        desk.watch(relation="same", other=A, one=DROP_X[0], name="drop")
        self.assertEqual(desk.would(rows=[("fails", "x")]), [("drop", False)])
        self.assertEqual(desk.allow(row=("fails", "x")), [("drop", False)])
        self.assertEqual(desk.forbid(row=("fails", "x")), [("drop", True)])
        self.assertIs(desk.state(name="drop"), True)
        desk.unwatch(name="drop")
        desk.watch("drop", A, other=A)
        self.assertEqual(desk.names(), ["drop"])


class TheLimits(unittest.TestCase):
    def test_large_grounds_and_rules(self):
        ground = Ground({"x": 0, "y": 0, "z": 1, "w": 2, "p": 2, "q": 2, "r": 1}, ["p", "q", "r"], ["p", "q"],
                        [("r", (name,), ("fail", name)) for name in "abcdef"])
        x, y, a = ("use", "x", ()), ("use", "y", ()), ("value", "a")
        one = ("then", ("try", x, a), ("if", ("use", "w", (a, y)), ("use", "p", (x, a)), ("use", "r", (a,))))
        other = ("if", ("use", "z", (a,)), ("use", "q", (y, x)), a)
        desk = Desk(ground, Permits.full(ground))
        desk.watch("one", one, other)
        desk.watch("two", one, one)
        desk.watch("three", other, one, "no worse")
        self.assertEqual([desk.state(name) for name in desk.names()], [False, False, True])
        every = [row for row in Permits.full(ground) if row != ("fails", "r")]
        for row in every:
            if row in desk.permits():
                desk.forbid(row)
        self.assertEqual(desk.permits(), Permits(ground))
        self.assertEqual(desk.would(every), [])
        while desk.permits() != Permits.full(ground):
            desk.undo()
        self.assertEqual([desk.state(name) for name in desk.names()], [False, False, True])


if __name__ == "__main__":
    unittest.main()
