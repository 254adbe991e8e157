"""How the parts of terms end in the free world, in each way of theirs.

What goes on behind a part is a function of how it ends, "value", "fails" or "stays", of what it ends with, and of the
recent evaluations behind it. All functions here return what it returns.
"""

from freeworldrules.terms import terms_in, with_terms

TRUE = ("value", "true")
FALSE = ("value", "false")


def outcome(world, term, names, recent, behind):
    """Goes on behind a term, whose names have values, with each end of it in a world."""
    word = term[0]
    if word == "value":
        return behind("value", term, recent)
    if word == "name":
        return behind("value", names[term[1]], recent)
    if word == "fail":
        return behind("fails", term, recent)
    step = STEPS[word]
    return step(world, term, names, recent, behind)


def noting_paths(term, path):
    """A term at a path of a whole that ends alike, and notes in worlds the paths to which a way comes."""
    terms = [noting_paths(part, path + (place,)) for place, part in enumerate(terms_in(term))]
    return ("at", path, with_terms(term, terms))


def _use(world, term, names, recent, behind):
    if len(term[2]) == 0:
        return world.use(term[1], (), recent, behind)
    return _use_with(world, term, (), names, recent, behind)


def _use_with(world, term, values, names, recent, behind):
    """Goes on behind a use, the first parts of which have values already."""
    known = len(values)
    for part in term[2][known:]:
        if part[0] == "value":
            values = (*values, part)
        elif part[0] == "name":
            values = (*values, names[part[1]])
        else:
            return outcome(world, part, names, recent, lambda kind, what, now:
                           _use_with(world, term, (*values, what), names, now, behind) if kind == "value"
                           else behind(kind, what, now))
    return world.use(term[1], values, recent, behind)


def _if(world, term, names, recent, behind):
    def behind_part(kind, what, now):
        if kind != "value":
            return behind(kind, what, now)
        return world.truth(what, lambda bit: outcome(world, term[2 + bit], names, now, behind))

    return outcome(world, term[1], names, recent, behind_part)


def _and(world, term, names, recent, behind):
    def behind_part(kind, what, now):
        if kind != "value":
            return behind(kind, what, now)
        return world.truth(what, lambda bit: outcome(world, term[2], names, now, behind) if bit == 0
                           else behind(kind, what, now))

    return outcome(world, term[1], names, recent, behind_part)


def _or(world, term, names, recent, behind):
    def behind_part(kind, what, now):
        if kind != "value":
            return behind(kind, what, now)
        return world.truth(what, lambda bit: outcome(world, term[2], names, now, behind) if bit == 1
                           else behind(kind, what, now))

    return outcome(world, term[1], names, recent, behind_part)


def _not(world, term, names, recent, behind):
    def behind_part(kind, what, now):
        if kind != "value":
            return behind(kind, what, now)
        return world.truth(what, lambda bit: behind("value", FALSE if bit == 0 else TRUE, now))

    return outcome(world, term[1], names, recent, behind_part)


def _then(world, term, names, recent, behind):
    def behind_part(kind, what, now):
        if kind != "value":
            return behind(kind, what, now)
        return outcome(world, term[2], names, now, behind)

    return outcome(world, term[1], names, recent, behind_part)


def _bind(world, term, names, recent, behind):
    def behind_part(kind, what, now):
        if kind != "value":
            return behind(kind, what, now)
        return outcome(world, term[3], {**names, term[1]: what}, now, behind)

    return outcome(world, term[2], names, recent, behind_part)


def _try(world, term, names, recent, behind):
    def behind_part(kind, what, now):
        if kind != "fails":
            return behind(kind, what, now)
        return outcome(world, term[2], names, now, behind)

    return outcome(world, term[1], names, recent, behind_part)


def _last(world, term, names, recent, behind):
    def behind_part(kind, what, now):
        if kind == "stays":
            return behind(kind, what, now)
        return outcome(world, term[2], names, now, lambda second, other, then:
                       behind(kind, what, then) if second == "value" else behind(second, other, then))

    return outcome(world, term[1], names, recent, behind_part)


def _at(world, term, names, recent, behind):
    """A part that notes its path in the world."""
    world.reached.append(term[1])
    stop = outcome(world, term[2], names, recent, behind)
    world.reached.pop()
    return stop


STEPS = {"use": _use, "if": _if, "and": _and, "or": _or, "not": _not, "then": _then, "bind": _bind, "try": _try,
         "last": _last, "at": _at}
