"""Texts of terms."""

from freeworldrules.errors import BadText
from freeworldrules.kinds import MOST_SIGNS
from freeworldrules.terms import TERMS_BEHIND, checked, terms_in

# words ahead of brackets that are no letters
WORDS = ("if", "and", "or", "not", "then", "bind", "try", "last", "fail")


def written(ground, term):
    """The text of a term."""
    return text_of(checked(ground, term))


def read(ground, text):
    """The term with a text."""
    return checked(ground, _whole(text))


def text_of(term):
    """The text of what is known to be a term."""
    if term[0] == "value":
        return "'" + term[1]
    if term[0] == "name":
        return term[1]
    if term[0] == "fail":
        return f"fail({term[1]})"
    things = [text_of(part) for part in terms_in(term)]
    if term[0] == "use":
        return f"{_ahead_of_brackets(term[1])}({', '.join(things)})"
    if term[0] == "bind":
        things = [term[1], *things]
    return f"{term[0]}({', '.join(things)})"


def _ahead_of_brackets(letter):
    return "." + letter if letter in WORDS else letter


def _whole(text):
    """The term with a text, whatever the ground."""
    if not isinstance(text, str):
        raise BadText(0)
    signs = Signs(text)
    term = signs.take_term()
    if signs.place < len(text):
        raise BadText(signs.place)
    return term


class Signs:
    """The signs of a text, which are taken one after another."""

    def __init__(self, text):
        self.text = text
        self.place = 0

    def sign(self):
        """The sign that comes next, or the empty string at the end."""
        return self.text[self.place:self.place + 1]

    def take(self, wanted):
        """Takes these signs alone."""
        for sign in wanted:
            if self.sign() != sign:
                raise BadText(self.place)
            self.place += 1

    def take_name(self):
        """Takes as many signs as a name can have."""
        first = self.place
        while self.place < first + MOST_SIGNS and "a" <= self.sign() <= "z":
            self.place += 1
        if self.place == first:
            raise BadText(first)
        return self.text[first:self.place]

    def take_word(self):
        """Takes one of the words alone."""
        first = self.place
        while self.text[first:self.place] not in WORDS:
            begun = self.text[first:self.place + 1]
            if self.sign() == "" or not any([word.startswith(begun) for word in WORDS]):
                raise BadText(self.place)
            self.place += 1
        return self.text[first:self.place]

    def take_term(self):
        """Takes a term; the calls are no deeper than the terms, for a text may have many within one another."""
        begun, fewest, most = self.take_begun()
        if most is None:
            return begun
        terms = []
        if fewest > 0 or self.sign() != ")":
            terms.append(self.take_term())
        while len(terms) < fewest or len(terms) < most and self.sign() == ",":
            self.take(", ")
            terms.append(self.take_term())
        self.take(")")
        return ("use", begun[1], tuple(terms)) if begun[0] == "use" else (*begun, *terms)

    def take_begun(self):
        """Takes a term up to the terms within it; how many there can be, None if it has none."""
        if self.sign() == "'":
            self.take("'")
            return ("value", self.take_name()), 0, None
        if self.sign() == ".":
            self.take(".")
            letter = self.take_word()
            self.take("(")
            return ("use", letter), 0, 2
        name = self.take_name()
        if self.sign() != "(":
            return ("name", name), 0, None
        self.take("(")
        return self.take_behind_bracket(name)

    def take_behind_bracket(self, word):
        """Takes what stands behind a word and the bracket up to the terms."""
        if word == "fail":
            failure = self.take_name()
            self.take(")")
            return ("fail", failure), 0, None
        if word == "bind":
            name = self.take_name()
            self.take(", ")
            return ("bind", name), 2, 2
        if word in TERMS_BEHIND:
            return (word,), TERMS_BEHIND[word], TERMS_BEHIND[word]
        return ("use", word), 0, 2
