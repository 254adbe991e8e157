"""Inlining: bodies of functions put for their uses."""

from freeworldrules.names import all_parts, letters_in, new_name
from freeworldrules.terms import terms_in, with_terms


def inlined_term(functions, term):
    """A term with the bodies of functions, triples (name, names, body), within binds of their names for their uses."""
    return Inlining(functions, term, ()).inlined(term)


def inlined_body(functions, function):
    """The body of a function, in which its names may stand, with the bodies of others for their uses."""
    return Inlining(functions, function[2], function[1]).inlined(function[2])


class Inlining:
    """Bodies that are put into one whole, in which no name of theirs is bound twice."""

    def __init__(self, functions, whole, names):
        self.known = {name: (inner, body) for name, inner, body in functions}
        self.taken = {name: True for name in [*names, *_bound_by_binds(whole)]}
        used = letters_in(whole)
        for name, _, body in reversed(functions):
            # a function uses those ahead of it alone, so its body is met ahead of theirs
            if name in used:
                used.extend(letters_in(body))
                for bound in _bound_by_binds(body):
                    self.taken[bound] = True

    def inlined(self, term):
        """A term of the whole with the bodies for the uses of functions."""
        terms = [self.inlined(part) for part in terms_in(term)]
        if term[0] != "use" or term[1] not in self.known:
            return with_terms(term, terms)
        names, body = self.known[term[1]]
        others = [self.take_name(name) for name in names]
        found = self.inlined(_renamed(body, dict(zip(names, others))))
        for name, part in reversed(list(zip(others, terms))):
            found = ("bind", name, part, found)
        return found

    def take_name(self, name):
        """The name, or another one where it would be bound twice."""
        found = new_name(self.taken) if name in self.taken else name
        self.taken[found] = True
        return found


def _renamed(term, others):
    """A term with other names for some that are bound outside of it."""
    if term[0] == "name":
        return ("name", others.get(term[1], term[1]))
    terms = []
    for place, part in enumerate(terms_in(term)):
        if term[0] == "bind" and place == 1:
            terms.append(_renamed(part, {name: other for name, other in others.items() if name != term[1]}))
        else:
            terms.append(_renamed(part, others))
    return with_terms(term, terms)


def _bound_by_binds(term):
    """The list of the names that the binds of a term bind."""
    return [part[1] for part in all_parts(term) if part[0] == "bind"]
