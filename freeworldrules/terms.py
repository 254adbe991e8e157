"""Terms: what rules put for one another, and the places of their parts."""

from freeworldrules.errors import BadTerm, NoPart
from freeworldrules.kinds import is_list, is_name, is_number

# words behind which nothing but a name stands
NAMED = ("value", "name", "fail")

# words behind which nothing but so many terms stand
TERMS_BEHIND = {"if": 3, "and": 2, "or": 2, "not": 1, "then": 2, "try": 2, "last": 2}


def checked(ground, thing):
    """Returns any object as a term of tuples throughout, or raises BadTerm."""
    return checked_within(ground, thing, (), ())


def parts(ground, term):
    """The list of the paths of all parts, a part ahead of those within it."""
    return paths_in(checked(ground, term))


def part_at(ground, term, path):
    """The part at a path, or NoPart."""
    return _part_or_raise(checked(ground, term), path)


def put_at(ground, term, path, other):
    """The term with another one in the place at a path, or NoPart."""
    whole = checked(ground, term)
    _part_or_raise(whole, path)
    place = tuple(path)
    put = checked_within(ground, other, _names_around(whole, place), place)
    return with_part(whole, place, put)


def size(ground, term):
    """The number of parts."""
    return len(parts(ground, term))


def checked_within(ground, thing, names, path):
    """A thing as a term at a path of a whole, around which the names are bound."""
    if not is_list(thing) or len(thing) < 2 or not isinstance(thing[0], str):
        raise BadTerm(path)
    word = thing[0]
    if word == "use" and _is_use(ground, thing):
        return ("use", thing[1], tuple(_checked_parts(ground, thing[2], names, path)))
    if word in TERMS_BEHIND and len(thing) == 1 + TERMS_BEHIND[word]:
        return (word, *_checked_parts(ground, thing[1:], names, path))
    if word in NAMED and len(thing) == 2 and is_name(thing[1]) and (word != "name" or thing[1] in names):
        return (word, thing[1])
    if word == "bind" and len(thing) == 4 and is_name(thing[1]):
        bound = checked_within(ground, thing[2], names, path + (0,))
        return ("bind", thing[1], bound, checked_within(ground, thing[3], (*names, thing[1]), path + (1,)))
    raise BadTerm(path)


def terms_in(term):
    """The terms that stand directly within a term, from left to right."""
    if term[0] in NAMED:
        return ()
    if term[0] == "use":
        return term[2]
    if term[0] == "bind":
        return term[2:]
    return term[1:]


def with_terms(term, terms):
    """The term, of tuples, with other terms directly within it."""
    if term[0] in NAMED:
        return tuple(term)
    if term[0] == "use":
        return ("use", term[1], tuple(terms))
    if term[0] == "bind":
        return ("bind", term[1], *terms)
    return (term[0], *terms)


def paths_in(term):
    """The list of the paths of all parts of a term, a part ahead of those within it."""
    found = [()]
    for place, part in enumerate(terms_in(term)):
        found.extend([(place, *path) for path in paths_in(part)])
    return found


def part_of(term, path):
    """The part of a term at a path of one."""
    part = term
    for place in path:
        part = terms_in(part)[place]
    return part


def with_part(term, path, other):
    """The term with another one in the place of the part at a path of one."""
    if len(path) == 0:
        return other
    terms = list(terms_in(term))
    terms[path[0]] = with_part(terms[path[0]], path[1:], other)
    return with_terms(term, terms)


def _checked_parts(ground, things, names, path):
    return [checked_within(ground, thing, names, path + (place,)) for place, thing in enumerate(things)]


def _is_use(ground, thing):
    if len(thing) != 3 or not isinstance(thing[1], str) or not is_list(thing[2]):
        return False
    return ground.parts_of(thing[1]) == len(thing[2])


def _names_for(term, place, names):
    """The names that are bound around the term at a place directly within a term."""
    if term[0] == "bind" and place == 1:
        return (*names, term[1])
    return names


def _names_around(term, path):
    names = ()
    part = term
    for place in path:
        names = _names_for(part, place, names)
        part = terms_in(part)[place]
    return names


def _part_or_raise(term, path):
    if not is_list(path):
        raise NoPart(path)
    part = term
    for place in path:
        terms = terms_in(part)
        if not is_number(place) or not 0 <= place < len(terms):
            raise NoPart(path)
        part = terms[place]
    return part
