"""The names that stand in terms."""

from freeworldrules.terms import terms_in

SIGNS = "abcdefghijklmnopqrstuvwxyz"


def all_parts(term):
    """The list of all parts of a term, a part ahead of those within it."""
    found = [term]
    for part in terms_in(term):
        found.extend(all_parts(part))
    return found


def letters_in(term):
    """The list of the letters that are used in a term, once for each use."""
    return [part[1] for part in all_parts(term) if part[0] == "use"]


def bound_in(term):
    """The list of the names that stand in a term by binds and for bound values."""
    return [part[1] for part in all_parts(term) if part[0] in ("bind", "name")]


def is_closed(term):
    """Tells whether all names in a term are bound within it."""
    return len(_unbound(term)) == 0


def new_name(taken):
    """The first name of one sign, or else of two, that is none of the taken ones."""
    names = list(SIGNS) + [one + other for one in SIGNS for other in SIGNS]
    return [name for name in names if name not in taken][0]


def _unbound(term):
    """The list of the names in a term that are bound outside of it."""
    if term[0] == "name":
        return [term[1]]
    found = []
    for place, part in enumerate(terms_in(term)):
        bound = term[1] if term[0] == "bind" and place == 1 else None
        found.extend([name for name in _unbound(part) if name != bound])
    return found
