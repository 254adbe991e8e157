"""Rules: whether two terms are related in all ways, and what parts them."""

from freeworldrules.bits import least_bits
from freeworldrules.checks import check_ground, check_relation, is_bit
from freeworldrules.errors import BadTerm
from freeworldrules.kinds import is_list
from freeworldrules.relations import related
from freeworldrules.terms import checked, checked_within
from freeworldrules.worlds import all_worlds, first_world, world_by


def ways(ground, permits, term):
    """The list of all pairs (bits, end) of a term, in ascending order of the bits."""
    check_ground(ground, permits)
    worlds = all_worlds(permits, [checked(ground, term)], {})
    return [(world.asked_bits(), world.ends[0]) for world in worlds]


def ways_of_two(ground, permits, one, other):
    """The list of all triples (bits, end, end) of two terms, in ascending order of the bits."""
    check_ground(ground, permits)
    terms = [checked(ground, one), checked(ground, other)]
    return [(world.asked_bits(), *world.ends) for world in all_worlds(permits, terms, {})]


def holds(ground, permits, one, other, relation="same"):
    """Tells whether in all ways of two terms their ends have the relation."""
    return _part_never(permits, _checked_rule(ground, permits, one, other, relation), relation)


def parting(ground, permits, one, other, relation="same"):
    """The least bits by which two terms do not have the relation, or None."""
    terms = _checked_rule(ground, permits, one, other, relation)
    return least_bits([world.asked_bits() for world in all_worlds(permits, terms, {})
                       if not related(relation, world.ends[0], world.ends[1])])


def is_parting(ground, permits, one, other, relation, thing):
    """Tells whether any object is bits by which two terms do not have the relation, none of them left over."""
    terms = _checked_rule(ground, permits, one, other, relation)
    if not is_list(thing) or not all([is_bit(bit) for bit in thing]):
        return False
    world = world_by(permits, terms, thing)
    return len(world.answers) >= len(thing) and not related(relation, world.ends[0], world.ends[1])


def classes(ground, permits, terms):
    """The list of the ascending tuples of the indexes of terms that end alike, in the order of their first ones."""
    check_ground(ground, permits)
    if not is_list(terms):
        raise BadTerm(())
    known = [checked_within(ground, thing, (), (index,)) for index, thing in enumerate(terms)]
    found = []
    for index, term in enumerate(known):
        indexes = _class_of(permits, known, found, term)
        if indexes is None:
            found.append([index])
        else:
            indexes.append(index)
    return [tuple(indexes) for indexes in found]


def _class_of(permits, known, found, term):
    """The one of the lists of indexes whose terms end like this one, or None."""
    for indexes in found:
        if _part_never(permits, [known[indexes[0]], term], "same"):
            return indexes
    return None


def _part_never(permits, terms, relation):
    return first_world(permits, terms, lambda world: not related(relation, world.ends[0], world.ends[1])) is None


def _checked_rule(ground, permits, one, other, relation):
    check_ground(ground, permits)
    terms = [checked(ground, one), checked(ground, other)]
    check_relation(relation)
    return terms
