"""Points 10 and 11: permits."""

import unittest

from any_objects import any_objects
from freeworldrules.errors import BadPermit, NoRow, UnlikeGrounds
from freeworldrules.grounds import Ground
from freeworldrules.permits import Permits

# the letters stand in another order than the alphabet's
GROUND = Ground({"y": 0, "plus": 2, "x": 1, "zero": 0}, ["zero", "plus"], ["plus"])

FACTS = Ground({"y": 0, "plus": 2, "x": 1, "zero": 0}, ["zero", "plus"], ["plus"],
               [("plus", ("a", "b"), ("value", "c")), ("plus", ("a", "a"), ("fail", "c")),
                ("plus", ("b", "b"), ("fail", "c")), ("zero", (), ("value", "a"))])

ALL = [
    ("fails", "y"), ("fails", "plus"), ("fails", "x"), ("fails", "zero"),
    ("stays", "y"), ("stays", "plus"), ("stays", "x"), ("stays", "zero"),
    ("writes", "y"), ("writes", "x"),
    ("shows", "y", "y"), ("shows", "y", "x"), ("shows", "x", "y"), ("shows", "x", "x"),
    ("shares", "y", "x"),
]

ALWAYS = ("fails", "plus")

# what is no permission of these grounds, beside what any_objects() tells
NO_PERMISSIONS = [
    ("fails",), ("fails", "a"), ("fails", "x", "x"), ("fail", "x"), ("Fails", "x"), ("stays", "times"), ("stays",),
    ("writes", "plus"), ("writes", "zero"), ("writes", "x", "y"), ("writes",),
    ("shows", "x"), ("shows", "x", "plus"), ("shows", "zero", "x"), ("shows", "x", "y", "y"), ("shows", "plus", "plus"),
    ("shares", "x"), ("shares", "x", "x"), ("shares", "x", "zero"), ("shares", "plus", "y"), ("shares", "x", "y", "x"),
    ("shares", "a", "x"), ("shares", "plus", "plus"), ("shares", "plus", "zero"), "fails x", "writes",
]


def rows_of(ground, *rows):
    return Permits(ground, rows).rows()


class WhatTheyHave(unittest.TestCase):
    def test_nothing_told(self):
        self.assertEqual(rows_of(GROUND), [])
        self.assertEqual(Permits(GROUND).rows(), [])
        self.assertEqual(len(Permits(GROUND)), 0)

    def test_each_permission_with_those_that_it_brings(self):
        brings = {
            ("shows", "y", "y"): [("writes", "y")], ("shows", "y", "x"): [("writes", "y")],
            ("shows", "x", "y"): [("writes", "x")], ("shows", "x", "x"): [("writes", "x")],
            ("shares", "y", "x"): [("writes", "y"), ("writes", "x")],
        }
        for row in ALL:
            self.assertEqual(rows_of(GROUND, row), brings.get(row, []) + [row])
            self.assertEqual(rows_of(GROUND, list(row)), brings.get(row, []) + [row])

    def test_shares_in_either_order(self):
        self.assertEqual(rows_of(GROUND, ("shares", "x", "y")), rows_of(GROUND, ("shares", "y", "x")))
        self.assertEqual(rows_of(GROUND, ["shares", "x", "y"])[-1], ("shares", "y", "x"))

    def test_shows_in_the_order_told(self):
        self.assertNotEqual(rows_of(GROUND, ("shows", "x", "y")), rows_of(GROUND, ("shows", "y", "x")))

    def test_rows_in_order_each_once(self):
        self.assertEqual(rows_of(GROUND, *ALL[::-1]), ALL)
        self.assertEqual(rows_of(GROUND, *(ALL[::2] + ALL[1::2] + ALL)), ALL)
        self.assertEqual(rows_of(GROUND, ("stays", "x"), ("fails", "zero"), ("stays", "y"), ("fails", "y")),
                         [("fails", "y"), ("fails", "zero"), ("stays", "y"), ("stays", "x")])

    def test_shares_of_more_letters_in_order(self):
        ground = Ground({"c": 0, "f": 1, "a": 0, "b": 0}, ["f"])
        shares = [row for row in Permits.full(ground).rows() if row[0] == "shares"]
        self.assertEqual(shares, [("shares", "c", "a"), ("shares", "c", "b"), ("shares", "a", "b")])
        self.assertEqual(rows_of(ground, ("shares", "b", "a"), ("shares", "a", "c"), ("shares", "b", "c"))[3:], shares)

    def test_full(self):
        self.assertEqual(Permits.full(GROUND).rows(), ALL)
        self.assertEqual(Permits.full(ground=FACTS).rows(), ALL)
        self.assertEqual(Permits.full(FACTS), Permits(FACTS, ALL))
        fixed = Ground({"f": 1, "g": 0}, ["f", "g"])
        self.assertEqual(Permits.full(fixed).rows(), [("fails", "f"), ("fails", "g"), ("stays", "f"), ("stays", "g")])

    def test_fails_that_a_fact_brings(self):
        self.assertEqual(Permits(FACTS).rows(), [ALWAYS])
        self.assertEqual(rows_of(FACTS, ("stays", "y"), ("fails", "y")), [("fails", "y"), ALWAYS, ("stays", "y")])
        self.assertEqual(rows_of(FACTS, ALWAYS), [ALWAYS])

    def test_the_ground(self):
        self.assertIs(type(Permits(GROUND).ground), Ground)
        self.assertEqual(Permits(GROUND).ground, GROUND)
        self.assertEqual(Permits.full(FACTS).ground, FACTS)
        full = Permits.full(FACTS)
        for permits in (full.without(("fails", "x")), full.joined(full), full.common(full)):
            self.assertEqual(permits.ground, FACTS)

    def test_kinds(self):
        rows = Permits(GROUND, [["shows", "x", "y"], ["fails", "x"]]).rows()
        self.assertIs(type(rows), list)
        self.assertEqual({type(row) for row in rows}, {tuple})

    def test_what_is_told_is_new(self):
        permits = Permits(GROUND, ALL)
        permits.rows().clear()
        self.assertEqual(permits.rows(), ALL)

    def test_what_is_changed_behind(self):
        row = ["shows", "x", "y"]
        rows = [row, ["fails", "y"]]
        permits = Permits(GROUND, rows)
        row[0] = "shares"
        rows.append(3)
        self.assertEqual(permits.rows(), [("fails", "y"), ("writes", "x"), ("shows", "x", "y")])

    def test_passed_things_stay(self):
        rows = [["shares", "x", "y"], ("shows", "x", "y")]
        Permits(GROUND, rows)
        self.assertEqual(rows, [["shares", "x", "y"], ("shows", "x", "y")])


class BadPermits(unittest.TestCase):
    def bad_index(self, rows, ground=GROUND):
        with self.assertRaises(BadPermit) as caught:
            Permits(ground, rows)
        return caught.exception.index

    def test_no_list(self):
        for thing in any_objects():
            if not isinstance(thing, (list, tuple)):
                self.assertEqual(self.bad_index(thing), 0)

    def test_things_that_are_no_permission(self):
        for thing in any_objects() + NO_PERMISSIONS:
            self.assertEqual(self.bad_index([("fails", "x"), ["shares", "x", "y"], thing]), 2)
            self.assertEqual(self.bad_index((thing,), FACTS), 0)

    def test_wrong_words_and_letters(self):
        for thing in any_objects():
            rows = [(thing, "x"), (thing, "x", "y"), ("writes", thing, "x"), ("fails", "x", thing)]
            if thing not in ("x", "y"):
                rows += [("fails", thing), ("stays", thing), ("writes", thing), ("shows", "x", thing),
                         ("shows", thing, "x"), ("shares", "x", thing), ("shares", thing, "x")]
            for row in rows:
                if row != ("fails", "x"):
                    self.assertEqual(self.bad_index([row]), 0)

    def test_the_first_one(self):
        self.assertEqual(self.bad_index([("fails", "x"), ("shares", "x", "x"), 3]), 1)
        self.assertEqual(self.bad_index([("fails", "x"), 3, ("shares", "x", "x")]), 1)


class AsAContainer(unittest.TestCase):
    def test_len(self):
        self.assertEqual(len(Permits.full(GROUND)), 15)
        self.assertEqual(len(Permits(FACTS)), 1)
        self.assertEqual(len(Permits(GROUND, [("shares", "x", "y"), ("shares", "y", "x")])), 3)

    def test_in(self):
        some = Permits(FACTS, [("shows", "x", "y"), ("stays", "zero")])
        for row in ALL:
            self.assertIs(row in some, row in (ALWAYS, ("stays", "zero"), ("writes", "x"), ("shows", "x", "y")))
            self.assertIs(list(row) in some, row in some)
            self.assertIn(row, Permits.full(FACTS))

    def test_in_for_shares_in_either_order(self):
        for told in (("shares", "x", "y"), ("shares", "y", "x")):
            permits = Permits(GROUND, [told])
            for asked in (("shares", "x", "y"), ["shares", "x", "y"], ("shares", "y", "x"), ["shares", "y", "x"]):
                self.assertIs(asked in permits, True)
        self.assertNotIn(("shares", "x", "y"), Permits(GROUND, [("shows", "x", "y"), ("shows", "y", "x")]))

    def test_shows_has_one_order(self):
        self.assertNotIn(("shows", "y", "x"), Permits(GROUND, [("shows", "x", "y")]))

    def test_in_for_any_object(self):
        for thing in any_objects() + NO_PERMISSIONS:
            self.assertIs(thing in Permits.full(GROUND), False)
            self.assertIs(thing in Permits(GROUND), False)

    def test_walking(self):
        self.assertEqual(list(Permits.full(GROUND)), ALL)
        self.assertEqual([row for row in Permits(FACTS, [["shares", "x", "y"]])],
                         [ALWAYS, ("writes", "y"), ("writes", "x"), ("shares", "y", "x")])


class Without(unittest.TestCase):
    def test_each_row(self):
        full = Permits.full(GROUND)
        for row in ALL:
            gone = [row]
            if row[0] == "writes":
                gone = [other for other in ALL if other[:2] == ("shows", row[1]) or other[0] == "shares"] + gone
            for told in (row, list(row)):
                self.assertEqual(full.without(told).rows(), [other for other in ALL if other not in gone])
        self.assertEqual(full.rows(), ALL)

    def test_who_is_shown_something_may_go_on_to_be(self):
        permits = Permits(GROUND, [("shows", "x", "y"), ("shows", "y", "x")])
        self.assertEqual(permits.without(("writes", "x")).rows(), [("writes", "y"), ("shows", "y", "x")])

    def test_what_a_row_brought_stays(self):
        self.assertEqual(Permits(GROUND, [("shows", "x", "y")]).without(("shows", "x", "y")).rows(), [("writes", "x")])
        self.assertEqual(Permits(GROUND, [("shares", "x", "y")]).without(("shares", "x", "y")).rows(),
                         [("writes", "y"), ("writes", "x")])

    def test_shares_in_either_order(self):
        for row in (("shares", "x", "y"), ["shares", "y", "x"], ["shares", "x", "y"]):
            self.assertNotIn(row, Permits.full(GROUND).without(row))

    def test_shares_of_other_letters_stay(self):
        full = Permits.full(Ground({"a": 0, "b": 0, "c": 0}))
        left = full.without(("writes", "b")).rows()
        self.assertEqual([row for row in left if row[0] == "shares"], [("shares", "a", "c")])
        self.assertEqual([row for row in left if row[0] == "writes"], [("writes", "a"), ("writes", "c")])

    def no_row(self, permits, row):
        with self.assertRaises(NoRow) as caught:
            permits.without(row)
        self.assertIs(caught.exception.row, row)

    def test_no_row(self):
        some = Permits(GROUND, [("shows", "x", "y")])
        for row in any_objects() + NO_PERMISSIONS + [row for row in ALL if row not in some] + [["shares", "x", "y"]]:
            self.no_row(some, row)
        for row in any_objects() + NO_PERMISSIONS:
            self.no_row(Permits.full(GROUND), row)

    def test_a_row_that_they_always_have(self):
        for row in (ALWAYS, list(ALWAYS)):
            self.no_row(Permits.full(FACTS), row)
            self.no_row(Permits(FACTS, [ALWAYS]), row)
        self.assertNotIn(ALWAYS, Permits.full(GROUND).without(ALWAYS))
        self.assertNotIn(("fails", "zero"), Permits.full(FACTS).without(("fails", "zero")))


class OfTwo(unittest.TestCase):
    one = Permits(GROUND, [("shows", "x", "y"), ("fails", "zero"), ("stays", "y")])
    other = Permits(GROUND, [("shares", "x", "y"), ("fails", "y"), ("stays", "y")])

    def test_within(self):
        full, none = Permits.full(GROUND), Permits(GROUND)
        for permits in (self.one, self.other, full, none):
            self.assertIs(permits.within(permits), True)
            self.assertIs(permits.within(full), True)
            self.assertIs(none.within(permits), True)
        self.assertIs(full.within(self.one), False)
        self.assertIs(self.one.within(self.other), False)
        self.assertIs(Permits(GROUND, [("writes", "x")]).within(self.other), True)
        self.assertIs(Permits(GROUND, [("shows", "y", "x")]).within(self.one), False)

    def test_joined(self):
        rows = [("fails", "y"), ("fails", "zero"), ("stays", "y"), ("writes", "y"), ("writes", "x"),
                ("shows", "x", "y"), ("shares", "y", "x")]
        self.assertEqual(self.one.joined(self.other).rows(), rows)
        self.assertEqual(self.other.joined(self.one).rows(), rows)
        self.assertEqual(self.one.joined(Permits(GROUND)), self.one)

    def test_common(self):
        rows = [("stays", "y"), ("writes", "x")]
        self.assertEqual(self.one.common(self.other).rows(), rows)
        self.assertEqual(self.other.common(self.one).rows(), rows)
        self.assertEqual(self.one.common(Permits.full(GROUND)), self.one)
        self.assertEqual(len(self.one.common(Permits(GROUND))), 0)

    def test_what_all_permits_of_a_ground_have(self):
        one, other = Permits(FACTS, [("fails", "x")]), Permits(FACTS, [("stays", "x")])
        self.assertEqual(one.common(other).rows(), [ALWAYS])
        self.assertEqual(one.joined(other).rows(), [ALWAYS, ("fails", "x"), ("stays", "x")])
        self.assertIs(Permits(FACTS).within(one), True)

    def test_both_stay_as_they_are(self):
        one, other = self.one.rows(), self.other.rows()
        self.one.joined(self.other)
        self.one.common(self.other)
        self.one.within(self.other)
        self.assertEqual((self.one.rows(), self.other.rows()), (one, other))

    def test_unlike_grounds(self):
        others = [FACTS, Ground({"x": 0}), Ground(GROUND.letters(), GROUND.fixed()),
                  Ground({"x": 1, "y": 0, "plus": 2, "zero": 0}, ["zero", "plus"], ["plus"])]
        for other in others:
            for call in (self.one.within, self.one.joined, self.one.common):
                with self.assertRaises(UnlikeGrounds):
                    call(Permits(other))

    def test_equal_grounds_need_not_be_the_same(self):
        same = Permits(Ground(GROUND.letters(), GROUND.fixed(), GROUND.commuting()), [("writes", "x")])
        self.assertIs(same.within(self.one), True)
        self.assertEqual(self.one.joined(same), self.one)
        self.assertEqual(self.one.common(same), same)


class Equal(unittest.TestCase):
    def test_equal_ones(self):
        rows = [("shares", "x", "y"), ("fails", "x")]
        same = Permits(Ground(GROUND.letters(), GROUND.fixed()[::-1], GROUND.commuting()),
                       [("fails", "x"), ["writes", "y"], ["shares", "y", "x"], ("fails", "x")])
        self.assertTrue(Permits(GROUND, rows) == same)
        self.assertFalse(Permits(GROUND, rows) != same)

    def test_unlike_ones(self):
        one = Permits(GROUND, [("shows", "x", "y")])
        for other in (Permits(GROUND), Permits(GROUND, [("writes", "x")]), Permits(GROUND, [("shows", "y", "x")]),
                      Permits(GROUND, [("shows", "x", "y"), ("fails", "x")])):
            self.assertFalse(one == other)
            self.assertTrue(one != other)

    def test_unlike_grounds(self):
        self.assertFalse(Permits.full(GROUND) == Permits.full(FACTS))
        self.assertFalse(Permits(GROUND) == Permits(Ground({"x": 0})))

    def test_nothing_else(self):
        for permits in (Permits(GROUND), Permits.full(GROUND)):
            for thing in any_objects() + [permits.rows(), tuple(permits.rows()), GROUND]:
                self.assertFalse(permits == thing)
                self.assertTrue(permits != thing)


if __name__ == "__main__":
    unittest.main()
