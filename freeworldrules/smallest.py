"""Least terms that end alike."""

from freeworldrules.checks import check_ground, check_most
from freeworldrules.names import all_parts
from freeworldrules.relations import end_alike
from freeworldrules.settings import Setting
from freeworldrules.terms import TERMS_BEHIND, checked
from freeworldrules.texts import text_of


def alikes(ground, permits, term, most):
    """The list of all terms, without names, with at most so many parts, that end alike with a term."""
    candidates = _checked_candidates(ground, permits, term, most)
    return [other for other in candidates.in_order() if candidates.is_alike(other)]


def smallest(ground, permits, term, most):
    """The first of these, or None."""
    candidates = _checked_candidates(ground, permits, term, most)
    for other in candidates.in_order():
        if candidates.is_alike(other):
            return other
    return None


class Candidates:
    """The terms of letters of a ground, of the values and failures of a term, and of true and false."""

    def __init__(self, ground, permits, term, most):
        self.setting = Setting(ground, permits)
        self.term = term
        self.most = most
        self.single = [("value", "true"), ("value", "false")]
        for part in all_parts(term):
            if part[0] in ("value", "fail") and part not in self.single:
                self.single.append(part)
        # the letters and words behind which none, one, two and three terms stand
        self.heads = {many: [("use", letter) for letter in ground if ground.parts_of(letter) == many]
                      for many in range(4)}
        for word, many in TERMS_BEHIND.items():
            self.heads[many].append((word,))
        # from numbers of parts to the terms with so many
        self.made = {}

    def in_order(self):
        """The list of all of them, by the number of parts, then by their texts."""
        found = []
        for many in range(1, self.most + 1):
            found.extend(sorted(self.with_parts(many), key=text_of))
        return found

    def with_parts(self, many):
        """The list of those with so many parts."""
        if many not in self.made:
            self.made[many] = self._make(many)
        return self.made[many]

    def _make(self, many):
        found = list(self.single) if many == 1 else []
        for within, heads in self.heads.items():
            rows = self.rows_with_parts(within, many - 1)
            found.extend([_with_head(head, row) for head in heads for row in rows])
        return found

    def rows_with_parts(self, length, many):
        """The list of the tuples of so many of them that have so many parts together."""
        if length == 0:
            return [()] if many == 0 else []
        found = []
        for first in range(1, many + 2 - length):
            behind = self.rows_with_parts(length - 1, many - first)
            found.extend([(one, *row) for one in self.with_parts(first) for row in behind])
        return found

    def is_alike(self, other):
        """Tells whether one of them ends alike with the term."""
        return end_alike(self.setting, self.term, other)


def _with_head(head, terms):
    return ("use", head[1], terms) if head[0] == "use" else (head[0], *terms)


def _checked_candidates(ground, permits, term, most):
    check_ground(ground, permits)
    whole = checked(ground, term)
    check_most(most)
    return Candidates(ground, permits, whole, most)
