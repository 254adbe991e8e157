"""Matches: terms that a side of a rule stands for, and the other side put for them."""

from freeworldrules.names import is_closed
from freeworldrules.terms import terms_in, with_terms


def matched(ground, side, term):
    """The dict from the letters of a rule's side to the terms for which they stand, None if it is not this term."""
    found = {}
    return found if _is_matched(ground, side, term, found) else None


def put_for_letters(side, terms):
    """A rule's side with terms for those of its letters that stand for terms."""
    if side[0] == "use" and side[1] in terms:
        return terms[side[1]]
    return with_terms(side, [put_for_letters(part, terms) for part in terms_in(side)])


def _is_matched(ground, side, term, found):
    """Tells whether a part of a side stands for a term, and notes for what its letters stand."""
    if _stands_for_any(ground, side):
        if side[1] in found:
            return found[side[1]] == term
        found[side[1]] = term
        return is_closed(term)
    # all but the terms within has to be as it stands; then there are as many of these
    if with_terms(side, ()) != with_terms(term, ()):
        return False
    return all([_is_matched(ground, part, one, found) for part, one in zip(terms_in(side), terms_in(term))])


def _stands_for_any(ground, side):
    return side[0] == "use" and len(side[2]) == 0 and side[1] not in ground.fixed()
