"""Points 26 and 27: terms that stand for letters."""

import random
import unittest

from any_objects import NO_NAMES, any_objects
from freeworldrules.errors import BadPlayer, BadTerm, Clash, UnlikeGrounds
from freeworldrules.grounds import Ground
from freeworldrules.permits import Permits
from freeworldrules.players import permits_of, played
from freeworldrules.rules import holds
from freeworldrules.terms import checked
from model import random_term

GROUND = Ground({"x": 0, "f": 1, "g": 2, "y": 0, "plus": 2, "bad": 1}, ["plus", "bad"], ["plus"],
                [("bad", ("a",), ("fail", "no"))])

X, Y = ("use", "x", ()), ("use", "y", ())
A, B = ("value", "a"), ("value", "b")
P, Q, V = ("name", "p"), ("name", "q"), ("name", "v")
NO = Permits(GROUND)
FULL = Permits.full(GROUND)
ALWAYS = ("fails", "bad")


def f(term):
    return ("use", "f", (term,))


def g(one, other):
    return ("use", "g", (one, other))


def in_lists(thing):
    return [in_lists(part) for part in thing] if isinstance(thing, (list, tuple)) else thing


class Played(unittest.TestCase):
    def test_binds_from_left_to_right_around_the_body(self):
        players = {"g": (("p", "q"), ("then", Q, P)), "x": ((), ("not", Y)), "f": (("r",), f(("name", "r")))}
        self.assertEqual(played(GROUND, g(A, B), players), ("bind", "p", A, ("bind", "q", B, ("then", Q, P))))
        self.assertEqual(played(GROUND, X, players), ("not", Y))
        self.assertEqual(played(GROUND, f(A), players), ("bind", "r", A, f(("name", "r"))))

    def test_each_use(self):
        players = {"f": (("p",), ("not", P))}
        self.assertEqual(played(GROUND, ("if", f(A), Y, ("try", f(B), f(Y))), players),
                         ("if", ("bind", "p", A, ("not", P)), Y,
                          ("try", ("bind", "p", B, ("not", P)), ("bind", "p", Y, ("not", P)))))

    def test_uses_within_the_terms_of_a_use(self):
        players = {"f": (("p",), P), "x": ((), B)}
        self.assertEqual(played(GROUND, f(f(X)), players), ("bind", "p", ("bind", "p", B, P), P))
        self.assertEqual(played(GROUND, ("use", "plus", (X, f(A))), players),
                         ("use", "plus", (B, ("bind", "p", A, P))))

    def test_bodies_are_not_played(self):
        self.assertEqual(played(GROUND, ("then", X, Y), {"x": ((), Y), "y": ((), ("then", X, X))}),
                         ("then", Y, ("then", X, X)))
        self.assertEqual(played(GROUND, X, {"x": ((), ("then", X, X))}), ("then", X, X))

    def test_names_that_stay(self):
        term = ("bind", "v", X, f(V))
        self.assertEqual(played(GROUND, term, {"f": (("p",), ("and", P, P))}),
                         ("bind", "v", X, ("bind", "p", V, ("and", P, P))))

    def test_no_players_and_no_uses(self):
        self.assertEqual(played(GROUND, f(X), {}), f(X))
        self.assertEqual(played(GROUND, A, {"x": ((), B)}), A)

    def test_names_in_the_body_that_it_binds(self):
        player = (("p",), ("bind", "v", P, ("bind", "p", V, P)))
        self.assertEqual(played(GROUND, f(A), {"f": player}), ("bind", "p", A, player[1]))
        # the name that the body binds may stand elsewhere
        term = ("bind", "v", X, f(V))
        self.assertEqual(played(GROUND, term, {"f": player}), ("bind", "v", X, ("bind", "p", V, player[1])))

    def test_lists_for_tuples_and_what_is_passed_stays(self):
        players = {"g": [["p", "q"], in_lists(("then", Q, P))], "x": [[], ["value", "a"]]}
        kept = {"g": [["p", "q"], in_lists(("then", Q, P))], "x": [[], ["value", "a"]]}
        self.assertEqual(played(GROUND, in_lists(g(X, B)), players),
                         ("bind", "p", A, ("bind", "q", B, ("then", Q, P))))
        self.assertEqual(players, kept)
        self.assertEqual(permits_of(GROUND, FULL, players), permits_of(GROUND, FULL, {"g": (("p", "q"), ("then", Q, P)),
                                                                                      "x": ((), A)}))

    def test_the_term_that_is_told_is_one(self):
        chance = random.Random(26)
        for _ in range(100):
            term = random_term(chance, GROUND, chance.randrange(1, 14))
            players = {"x": ((), random_term(chance, GROUND, 5)), "f": (("p",), random_term(chance, GROUND, 5, ("p",))),
                       "g": (("q", "r"), random_term(chance, GROUND, 5, ("q", "r")))}
            told = played(GROUND, term, players)
            self.assertEqual(checked(GROUND, told), told)

    def test_played_terms_may_be_large(self):
        body = P
        for _ in range(13):
            body = ("not", body)
        term = f(f(f(f(f(X)))))
        told = played(GROUND, term, {"f": (("p",), body)})
        for _ in range(5):
            self.assertEqual(told[:2] + told[3:], ("bind", "p", body))
            told = told[2]
        self.assertEqual(told, X)


class BadPlayers(unittest.TestCase):
    def bad_key(self, players):
        keys = []
        for call in (lambda: played(GROUND, A, players), lambda: permits_of(GROUND, FULL, players)):
            with self.assertRaises(BadPlayer) as caught:
                call()
            keys.append(caught.exception.key)
        self.assertEqual(keys[0], keys[1])
        return keys[0]

    def test_no_dict(self):
        for thing in any_objects():
            if not isinstance(thing, dict):
                self.assertIsNone(self.bad_key(thing))

    def test_keys_that_are_no_letters_for_players(self):
        for key in (0, 1, True, None, "", "z", "X", "plus", "bad", ("x",), (), 10 ** 20):
            for player in (((), A), (("p", "q"), A)):
                self.assertEqual(self.bad_key({"x": ((), A), key: player, "y": 3}), key)

    def test_things_that_are_no_players(self):
        for letter in ("x", "f", "g"):
            for thing in any_objects():
                self.assertEqual(self.bad_key({"y": ((), A), letter: thing}), letter)
                self.assertEqual(self.bad_key({letter: ((("p", "q"))[:GROUND.letters()[letter]], ("not", thing))}), letter)
                self.assertEqual(self.bad_key({letter: (thing, thing)}), letter)
                if thing not in ([], (), ["x"], ("x", "y"), ["fails"], ("value",)):
                    self.assertEqual(self.bad_key({letter: (thing, A)}), letter)

    def test_wrong_numbers_of_things_and_names(self):
        for letter, many in (("x", 0), ("f", 1), ("g", 2)):
            for number in range(4):
                if number != many:
                    self.assertEqual(self.bad_key({letter: (("p", "q", "r")[:number], A)}), letter)
            right = (("p", "q")[:many], A)
            for player in (right[:1], right + (A,), right[::-1]):
                self.assertEqual(self.bad_key({letter: player}), letter)

    def test_wrong_names(self):
        for name in NO_NAMES + any_objects():
            if name not in ("x", "y", "true", "value", "use", "fails"):
                self.assertEqual(self.bad_key({"f": ((name,), A)}), "f")
                self.assertEqual(self.bad_key({"g": (("p", name), A)}), "g")
        self.assertEqual(self.bad_key({"g": (("p", "p"), A)}), "g")
        self.assertEqual(self.bad_key({"f": ("p", A)}), "f")
        self.assertEqual(self.bad_key({"g": ("pq", A)}), "g")
        self.assertEqual(self.bad_key({"x": ("", A)}), "x")

    def test_names_of_no_bind_in_the_body(self):
        self.assertEqual(self.bad_key({"x": ((), P)}), "x")
        self.assertEqual(self.bad_key({"f": (("p",), ("not", Q))}), "f")
        self.assertEqual(self.bad_key({"f": (("p",), P), "x": ((), P)}), "x")

    def test_the_first_key(self):
        self.assertEqual(self.bad_key({"y": 3, "x": 3}), "y")
        self.assertEqual(self.bad_key({"x": ((), A), "plus": 3, "y": 3}), "plus")


class Clashes(unittest.TestCase):
    def clash(self, term, players):
        with self.assertRaises(Clash) as caught:
            played(GROUND, term, players)
        return caught.exception.name

    def test_in_the_term(self):
        self.assertEqual(self.clash(("bind", "p", X, A), {"f": (("p",), A)}), "p")
        self.assertEqual(self.clash(("bind", "q", X, f(Q)), {"g": (("p", "q"), A)}), "q")
        self.assertEqual(self.clash(("bind", "q", X, ("bind", "p", X, A)), {"g": (("p", "q"), A)}), "p")

    def test_in_another_player(self):
        for other in (("bind", "p", X, A), ("not", ("bind", "p", A, P))):
            self.assertEqual(self.clash(A, {"f": (("p",), P), "x": ((), other)}), "p")
            self.assertEqual(self.clash(A, {"x": ((), other), "f": (("p",), P)}), "p")
        self.assertEqual(self.clash(A, {"f": (("p",), A), "g": (("q", "p"), B)}), "p")
        self.assertEqual(self.clash(A, {"g": (("r", "q"), B), "f": (("q",), A)}), "q")

    def test_the_first_name_in_the_order_of_the_dict(self):
        self.assertEqual(self.clash(("bind", "q", X, A), {"f": (("p",), A), "g": (("p", "q"), B)}), "p")
        self.assertEqual(self.clash(("bind", "q", X, A), {"g": (("q", "p"), B), "f": (("p",), A)}), "q")
        self.assertEqual(self.clash(("bind", "r", X, A), {"f": (("p",), A), "g": (("q", "r"), B)}), "r")

    def test_what_is_no_clash(self):
        own = (("p",), ("bind", "p", P, ("bind", "v", P, V)))
        for term, players in (
                # values, failures and letters have no names
                (("then", ("value", "p"), ("try", ("fail", "p"), A)), {"f": (("p",), P)}),
                (X, {"f": (("x",), ("name", "x"))}),
                # a name that a player binds in its body alone
                (("bind", "v", X, A), {"f": own}), (A, {"f": own, "g": (("v", "w"), B)})):
            if players.get("g"):
                self.assertEqual(self.clash(term, players), "v")
            else:
                played(GROUND, term, players)

    def test_names_that_only_bodies_bind_may_be_the_same(self):
        bind = ("bind", "v", X, V)
        self.assertEqual(played(GROUND, ("then", X, Y), {"x": ((), bind), "y": ((), bind)}), ("then", bind, bind))
        self.assertEqual(played(GROUND, bind, {"x": ((), bind)}), ("bind", "v", bind, V))


class Order(unittest.TestCase):
    def test_played(self):
        for players in (3, {"x": 3}, {"f": (("p",), A)}):
            with self.assertRaises(BadTerm) as caught:
                played(GROUND, ("bind", "p", X, ("not", 3)), players)
            self.assertEqual(caught.exception.path, (1, 0))
        with self.assertRaises(BadPlayer) as caught:
            played(GROUND, ("bind", "p", X, A), {"f": (("p",), A), "x": 3})
        self.assertEqual(caught.exception.key, "x")

    def test_permits_of(self):
        with self.assertRaises(UnlikeGrounds):
            permits_of(GROUND, Permits(Ground({"x": 0})), 3)
        # names that clash are let here
        permits_of(GROUND, FULL, {"f": (("p",), P), "g": (("p", "q"), ("bind", "p", P, P))})


class PermitsOf(unittest.TestCase):
    def rows(self, players, *rows):
        told = permits_of(GROUND, Permits(GROUND, rows), players)
        self.assertEqual(told.ground, GROUND)
        return [row for row in told.rows() if row != ALWAYS]

    def test_no_players(self):
        for permits in (NO, FULL, Permits(GROUND, [("shows", "x", "y"), ("shares", "f", "x"), ("fails", "plus")])):
            self.assertEqual(permits_of(GROUND, permits, {}), permits)
            self.assertEqual(permits_of(GROUND, permits, {"x": ((), X), "f": (("p",), f(P))}), permits)

    def test_the_own_permissions_of_a_played_letter_do_not_count(self):
        self.assertEqual(self.rows({"x": ((), A)}, ("fails", "x"), ("stays", "x"), ("shows", "x", "x")), [])
        self.assertEqual(self.rows({"x": ((), A)}, ("shares", "x", "y"), ("shows", "y", "x")), [("writes", "y")])

    def test_fails_and_stays(self):
        self.assertEqual(self.rows({"x": ((), Y)}, ("fails", "y"), ("stays", "y")),
                         [("fails", "x"), ("fails", "y"), ("stays", "x"), ("stays", "y")])
        self.assertEqual(self.rows({"x": ((), ("try", Y, A))}, ("fails", "y"), ("stays", "y")),
                         [("fails", "y"), ("stays", "x"), ("stays", "y")])
        self.assertEqual(self.rows({"x": ((), ("fail", "e"))}), [("fails", "x")])
        self.assertEqual(self.rows({"x": ((), ("if", Y, A, ("fail", "e")))}), [("fails", "x")])
        self.assertEqual(self.rows({"x": ((), ("then", ("fail", "e"), Y))}, ("stays", "y")), [("fails", "x"), ("stays", "y")])
        self.assertEqual(self.rows({"x": ((), ("use", "plus", (A, A)))}, ("fails", "plus"), ("stays", "plus")),
                         [("fails", "x"), ("fails", "plus"), ("stays", "x"), ("stays", "plus")])

    def test_names_stand_for_values_of_letters_of_their_own(self):
        self.assertEqual(self.rows({"f": (("p",), ("if", P, A, ("fail", "e")))}), [("fails", "f")])
        self.assertEqual(self.rows({"f": (("p",), ("if", P, P, ("if", P, ("fail", "e"), A)))}), [])
        self.assertEqual(self.rows({"g": (("p", "q"), ("if", P, A, ("if", Q, ("fail", "e"), A)))}), [("fails", "g")])
        # no fact tells of them, and none has a permission
        self.assertEqual(self.rows({"f": (("p",), P)}), [])
        self.assertEqual(self.rows({"f": (("p",), ("use", "bad", (P,)))}), [("fails", "f")])
        self.assertEqual(self.rows({"f": (("p",), ("use", "plus", (P, P)))}), [])
        # two of them are two letters' values: they are told apart
        body = ("if", ("use", "plus", (P, P)), ("if", ("use", "plus", (P, Q)), A, ("fail", "e")), A)
        self.assertEqual(self.rows({"g": (("p", "q"), body)}), [("fails", "g")])

    def test_writes_by_a_letter_in_the_body(self):
        for body in (Y, ("then", Y, A), ("if", ("value", "true"), A, Y), ("then", ("fail", "e"), Y)):
            self.assertIn(("writes", "x"), self.rows({"x": ((), body)}, ("writes", "y")))
        self.assertEqual(self.rows({"x": ((), f(("use", "plus", (A, A))))}, ("writes", "f")),
                         [("writes", "x"), ("writes", "f"), ("shares", "x", "f")])
        self.assertEqual(self.rows({"x": ((), ("then", X, f(A)))}, ("writes", "x")), [("writes", "x")])

    def test_shows(self):
        shows = ("shows", "y", "f")
        self.assertEqual(self.rows({"x": ((), Y)}, shows),
                         [("writes", "x"), ("writes", "y"), ("shows", "x", "f"), ("shows", "y", "f"), ("shares", "x", "y")])
        self.assertEqual(self.rows({"x": ((), f(A))}, shows),
                         [("writes", "y"), ("shows", "y", "x"), ("shows", "y", "f")])
        self.assertEqual(self.rows({"x": ((), f(Y))}, shows),
                         [("writes", "x"), ("writes", "y"), ("shows", "x", "x"), ("shows", "x", "f"), ("shows", "y", "x"),
                          ("shows", "y", "f"), ("shares", "x", "y")])

    def test_shares(self):
        self.assertEqual(self.rows({"x": ((), f(A))}, ("shares", "f", "y")),
                         [("writes", "x"), ("writes", "f"), ("writes", "y"), ("shares", "x", "f"), ("shares", "x", "y"),
                          ("shares", "f", "y")])
        # the same letter that writes is in both
        self.assertEqual(self.rows({"x": ((), Y)}, ("writes", "y")), [("writes", "x"), ("writes", "y"), ("shares", "x", "y")])
        self.assertEqual(self.rows({"x": ((), Y), "f": (("p",), Y), "y": ((), A)}, ("writes", "y")),
                         [("writes", "x"), ("writes", "f"), ("shares", "x", "f")])
        self.assertEqual(self.rows({"x": ((), Y)}, ("fails", "y")), [("fails", "x"), ("fails", "y")])

    def test_fixed_letters_stay_as_they_are(self):
        rows = [("fails", "plus"), ("stays", "plus")]
        self.assertEqual(self.rows({"x": ((), A)}, *rows), rows)
        self.assertIn(ALWAYS, permits_of(GROUND, NO, {"x": ((), A)}))

    def test_a_letter_twice_in_a_body_and_two_letters(self):
        self.assertEqual(self.rows({"x": ((), ("then", Y, Y))}, ("shows", "y", "y"))[-2:],
                         [("shows", "y", "y"), ("shares", "x", "y")])
        told = self.rows({"x": ((), ("then", Y, f(A)))}, ("shows", "f", "g"), ("shows", "g", "y"))
        self.assertEqual([row for row in told if row[0] == "shows"],
                         [("shows", "x", "g"), ("shows", "f", "g"), ("shows", "g", "x"), ("shows", "g", "y")])

    def test_it_holds_for_the_played_terms(self):
        chance = random.Random(27)
        letters = {"x": 0, "f": 1, "y": 0, "plus": 2}
        ground = Ground(letters, ["plus"], ["plus"], [("plus", ("a", "b"), ("fail", "e"))])
        good = 0
        for _ in range(300):
            permits = Permits(ground, [row for row in Permits.full(ground) if chance.random() < 0.15])
            players = {"x": ((), random_term(chance, ground, chance.randrange(1, 5))),
                       "f": (("p",), random_term(chance, ground, chance.randrange(1, 5), ("p",)))}
            within = permits_of(ground, permits, players)
            for one, other in ((("then", X, Y), ("then", Y, X)), (("then", X, X), X), (("then", X, A), A),
                               (("bind", "v", X, f(V)), f(X)), (("then", f(A), f(A)), f(A)),
                               (("last", Y, f(A)), ("bind", "v", Y, ("then", f(A), V)))):
                if holds(ground, within, one, other):
                    good += 1
                    terms = [played(ground, term, players) for term in (one, other)]
                    self.assertTrue(holds(ground, permits, *terms))
        self.assertGreater(good, 300)


if __name__ == "__main__":
    unittest.main()
