"""Point 37: texts of terms."""

import copy
import itertools
import random
import string
import unittest

from any_objects import NO_NAMES, any_objects
from freeworldrules.errors import BadTerm, BadText
from freeworldrules.grounds import Ground
from freeworldrules.terms import checked, size
from freeworldrules.texts import read, written
from model import random_term

WORDS = ("if", "and", "or", "not", "then", "bind", "try", "last", "fail")

GROUND = Ground({"x": 0, "f": 1, "p": 2, "value": 0, "use": 1}, ["p"])

# letters called like the words, with none, one and two parts
WORDY = Ground({word: place % 3 for place, word in enumerate(WORDS)})

X, A, B = ("use", "x", ()), ("value", "a"), ("value", "b")

TEXTS = [
    ("'a", A), ("x()", X), ("f('a)", ("use", "f", (A,))), ("p('a, x())", ("use", "p", (A, X))),
    ("if('a, x(), 'b)", ("if", A, X, B)), ("and('a, 'b)", ("and", A, B)), ("or('a, 'b)", ("or", A, B)),
    ("not('a)", ("not", A)), ("then('a, 'b)", ("then", A, B)), ("bind(v, 'a, v)", ("bind", "v", A, ("name", "v"))),
    ("try('a, 'b)", ("try", A, B)), ("last('a, 'b)", ("last", A, B)), ("fail(e)", ("fail", "e")),
    ("value()", ("use", "value", ())), ("use(value())", ("use", "use", (("use", "value", ()),))),
    ("bind(v, x(), bind(v, f(v), p(v, v)))",
     ("bind", "v", X, ("bind", "v", ("use", "f", (("name", "v"),)), ("use", "p", (("name", "v"), ("name", "v")))))),
    ("not(not(not('false)))", ("not", ("not", ("not", ("value", "false"))))),
]


class Grammar:
    """The texts of point 37, told sign by sign: all that may stand behind a beginning, as stacks of what is due."""

    def __init__(self):
        # signs, ("name", how many may follow, one at least), ("term",), ("letters", those so far), ("more",)
        self.stacks = {(("term",),)}

    def take(self, sign):
        self.stacks = {stack for old in self.stacks for stack in self.behind(old, sign)}
        return len(self.stacks) > 0

    def can_end(self):
        return any(all(due[0] in ("rest", "letters") for due in stack) for stack in self.stacks)

    def behind(self, stack, sign):
        if not stack:
            return []
        due, rest = stack[0], stack[1:]
        kind = due[0]
        letter = sign in string.ascii_lowercase and sign != ""
        if kind == "sign":
            return [rest] if sign == due[1] else []
        if kind == "name":
            return [(("rest", 7),) + rest] if letter else []
        if kind == "rest":
            return ([(("rest", due[1] - 1),) + rest] if letter and due[1] else []) + self.behind(rest, sign)
        if kind == "term":
            if sign == "'":
                return [(("name",),) + rest]
            if sign == ".":
                return [self.signs(word + "(") + (("terms", 2),) + rest for word in WORDS]
            return [(("letters", sign),) + rest] if letter else []
        if kind == "letters":
            found = [(("letters", due[1] + sign),) + rest] if letter and len(due[1]) < 8 else []
            if sign == "(":
                found.append(self.inside(due[1]) + rest)
            return found + self.behind(rest, sign)
        if kind == "terms":
            found = [rest] if sign == ")" else []
            for many in range(1, due[1] + 1):
                found += self.behind(self.due_terms(many) + rest, sign)
            return found

    def signs(self, text):
        return tuple(("sign", sign) for sign in text)

    def due_terms(self, many):
        return sum([(("term",),) + self.signs(", ") for _ in range(many)], ())[:-2] + self.signs(")")

    def inside(self, word):
        if word == "fail":
            return (("name",),) + self.signs(")")
        if word == "bind":
            return (("name",),) + self.signs(", ") + self.due_terms(2)
        if word in WORDS:
            return self.due_terms({"if": 3, "not": 1}.get(word, 2))
        return (("terms", 2),)


def place_of_fault(text):
    """None for a text of a term, else the place that BadText has to tell."""
    grammar = Grammar()
    for place, sign in enumerate(text):
        if not grammar.take(sign):
            return place
    return None if grammar.can_end() else len(text)


class Written(unittest.TestCase):
    def test_each_kind_of_term(self):
        for text, term in TEXTS:
            self.assertEqual(written(GROUND, term), text)

    def test_letters_called_like_the_words(self):
        use = {word: ("use", word, (A,) * many) for word, many in WORDY.letters().items()}
        self.assertEqual([written(WORDY, use[word]) for word in WORDS],
                         [".if()", ".and('a)", ".or('a, 'a)", ".not()", ".then('a)", ".bind('a, 'a)", ".try()",
                          ".last('a)", ".fail('a, 'a)"])
        self.assertEqual(written(WORDY, ("if", use["if"], use["not"], use["try"])), "if(.if(), .not(), .try())")

    def test_other_things_called_like_the_words(self):
        for word in WORDS:
            term = ("bind", word, ("value", word), ("try", ("name", word), ("fail", word)))
            self.assertEqual(written(GROUND, term), f"bind({word}, '{word}, try({word}, fail({word})))")
            self.assertEqual(read(GROUND, written(GROUND, term)), term)

    def test_wrong_terms(self):
        for thing in any_objects():
            with self.assertRaises(BadTerm) as caught:
                written(GROUND, ("p", thing))
            self.assertEqual(caught.exception.path, ())
            with self.assertRaises(BadTerm) as caught:
                written(GROUND, ("use", "p", (A, thing)))
            self.assertEqual(caught.exception.path, (1,))


class Read(unittest.TestCase):
    def test_each_kind_of_term(self):
        for text, term in TEXTS:
            self.assertEqual(read(GROUND, text), term)

    def test_letters_called_like_the_words(self):
        for word, many in WORDY.letters().items():
            text = f".{word}({', '.join(['fail(e)'] * many)})"
            self.assertEqual(read(WORDY, text), ("use", word, (("fail", "e"),) * many))
            self.assertIsNone(place_of_fault(text))

    def test_there_and_back_by_chance(self):
        chance = random.Random(37)
        for ground in (GROUND, WORDY):
            for _ in range(300):
                term = checked(ground, random_term(chance, ground, chance.randrange(1, 15)))
                text = written(ground, term)
                self.assertEqual(read(ground, text), term)
                self.assertIsNone(place_of_fault(text))

    def fault(self, text, ground=GROUND):
        with self.assertRaises(BadText, msg=text) as caught:
            read(ground, text)
        return caught.exception.place

    def test_the_place_of_the_fault(self):
        for text, place in [
                ("", 0), (" ", 0), (" 'a", 0), ("'", 1), ("''a", 1), ("'a ", 2), ("'a(", 2), ("'A", 1), ("X()", 0),
                ("x() ", 3), ("x()\n", 3), ("x() x()", 3), ("x(", 2), ("x( )", 2), ("x('a", 4), ("x('a,", 5),
                ("x('a,'b)", 5), ("x('a,  'b)", 6), ("x('a, 'b", 8), ("x('a, 'b, 'c)", 8), ("x('a, )", 6), ("x(,", 2),
                ("x ()", 1), ("x)", 1), ("x,", 1), ("abcdefgh()", None), ("abcdefghi()", 8), ("'abcdefghi", 9),
                ("if()", 3), ("if('a, 'b)", 9), ("if('a, 'b, 'c, 'd)", 13), ("and('a)", 6), ("and('a, 'b, 'c)", 10),
                ("not()", 4), ("not('a, 'b)", 6), ("fail()", 5), ("fail('e)", 5), ("fail(e, f)", 6), ("fail(e", 6),
                ("fail(x())", 6), ("bind('v, 'a, v)", 5), ("bind(v)", 6), ("bind(v, 'a)", 10), ("bind(v, 'a, v", 13),
                ("bind(v(), 'a, v)", 6), ("bind(v, 'a, v, v)", 13), (".", 1), (".x()", 1), (".if", 3), (".if)", 3),
                (".i", 2), (".ifs()", 3), (".an'", 3), (".las()", 4), (".lst()", 2), (".'a", 1), ("..if()", 1),
                (".if(.)", 5), (".if('a, 'b, 'c)", 10), (".fail(e, 'a, 'b)", 11), ("x(.not", 6), ("'.if", 1),
                ("bind(.if, 'a, 'b)", 5), ("if", None), ("x\n()", 1), ("x('a,\n'b)", 5)]:
            self.assertEqual(place_of_fault(text), place, text)
            if place is not None:
                self.assertEqual(self.fault(text), place, text)

    def test_whatever_the_ground(self):
        # BadText comes ahead of BadTerm, and is told of no ground
        for ground in (GROUND, WORDY, Ground({"q": 2})):
            self.assertEqual(self.fault("nosuch(y, nothing(", ground), 18)
            self.assertEqual(self.fault("x(x('a, 'b, 'c))", ground), 10)

    def test_texts_of_no_term_of_the_ground(self):
        for text, path in [("v", ()), ("if", ()), ("y()", ()), ("x('a)", ()), ("f()", ()), ("p('a)", ()), ("f('a, 'b)", ()),
                           ("not(v)", (0,)), ("then('a, p('a, q()))", (1, 1)), ("bind(v, v, 'a)", (0,)),
                           ("then(bind(v, 'a, v), v)", (1,)), ("and(y(), z())", (0,)), (".if()", ()), ("f(.not('a))", (0,)),
                           ("p(f(), f())", (0,)), ("fail(abcdefgh)", None)]:
            if path is None:
                self.assertEqual(read(GROUND, text), ("fail", "abcdefgh"))
            else:
                with self.assertRaises(BadTerm, msg=text) as caught:
                    read(GROUND, text)
                self.assertEqual(caught.exception.path, path)

    def test_a_word_without_its_dot_is_no_letter(self):
        self.assertEqual(self.fault("if()", WORDY), 3)
        self.assertEqual(read(WORDY, "not(.if())"), ("not", ("use", "if", ())))
        self.assertEqual(read(WORDY, "fail(e)"), ("fail", "e"))

    def test_signs_that_are_put_out_or_in(self):
        chance = random.Random(370)
        signs = "abx.'(), \n~A0" + "ifnotlas"
        for _ in range(1500):
            ground = chance.choice((GROUND, WORDY))
            text = written(ground, random_term(chance, ground, chance.randrange(1, 12)))
            for _ in range(chance.randrange(1, 3)):
                at = chance.randrange(len(text) + 1)
                text = text[:at] + chance.choice(["", chance.choice(signs), chance.choice(WORDS)]) + text[at + chance.randrange(3):]
            place = place_of_fault(text)
            if place is not None:
                self.assertEqual(self.fault(text, ground), place, text)
            else:
                try:
                    self.assertEqual(written(ground, read(ground, text)), text)
                except BadTerm:
                    pass

    def test_all_short_strings(self):
        for many in range(5):
            for signs in itertools.product("x'.(), o", repeat=many):
                text = "".join(signs)
                place = place_of_fault(text)
                if place is not None:
                    self.assertEqual(self.fault(text), place, text)

    def test_all_signs_at_each_place(self):
        for text in ("p('a, x())", ".or('a, 'b)", "bind(v, 'a, v)", "fail(e)"):
            for place in range(len(text) + 1):
                for sign in [chr(number) for number in range(32, 127)] + ["\n", "\u00e9"]:
                    changed = text[:place] + sign + text[place:]
                    fault = place_of_fault(changed)
                    if fault is not None:
                        self.assertEqual(self.fault(changed), fault, changed)


class Conventions(unittest.TestCase):
    def test_lists_stand_for_tuples(self):
        term = ["then", ["use", "x", []], ("use", "f", [["value", "a"]])]
        passed = copy.deepcopy(term)
        self.assertEqual(written(GROUND, term), "then(x(), f('a))")
        self.assertEqual(term, passed)

    def test_tuples_throughout(self):
        term = read(GROUND, "p(f('a), x())")
        self.assertIs(type(term[2]), tuple)
        self.assertIs(type(term[2][1][2]), tuple)

    def test_by_name(self):
        self.assertEqual(written(ground=GROUND, term=A), "'a")
        self.assertEqual(written(term=A, ground=GROUND), "'a")
        self.assertEqual(read(ground=GROUND, text="'a"), A)
        self.assertEqual(read(text="'a", ground=GROUND), A)

    def test_names_that_are_none(self):
        for name in NO_NAMES:
            with self.assertRaises(BadText):
                read(GROUND, f"fail({name})")

    def test_what_is_no_string_has_no_text(self):
        for thing in any_objects():
            if not isinstance(thing, str):
                self.assertRaises(BadText, read, GROUND, thing)

    def test_long_texts(self):
        for begun, many in (("f(", 200), ("not(", 100), ("f(x('a, ", 50), ("x(", 199)):
            text = (begun * many)[:400]
            with self.assertRaises(BadText) as caught:
                read(GROUND, text)
            self.assertEqual(caught.exception.place, len(text))
        text = "f(" * 132 + "'a" + ")" * 132
        term = read(GROUND, text)
        self.assertEqual(size(GROUND, term), 133)
        self.assertEqual(written(GROUND, term), text)
        with self.assertRaises(BadText) as caught:
            read(GROUND, text + ")")
        self.assertEqual(caught.exception.place, len(text))
        with self.assertRaises(BadText) as caught:
            read(GROUND, "a" * 400)
        self.assertEqual(caught.exception.place, 8)

    def test_large_terms(self):
        ground = Ground({"abcdefgh": 2, "last": 2, "c": 0, "d": 0, "e": 0, "f": 1, "g": 1}, ["abcdefgh"])
        text = "bind(abcdefgh, .last(c(), 'abcdefgh), abcdefgh(if(f(abcdefgh), g(d()), fail(abcdefgh)), try(e(), 'true)))"
        term = read(ground, text)
        self.assertEqual(size(ground, term), 14)
        self.assertEqual(written(ground, term), text)


if __name__ == "__main__":
    unittest.main()
