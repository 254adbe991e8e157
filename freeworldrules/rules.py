"""Rules: whether two terms are related in all ways, and what parts them."""

from freeworldrules.bits import least_bits
from freeworldrules.checks import check_ground, check_relation, is_bit
from freeworldrules.errors import BadTerm
from freeworldrules.kinds import is_list
from freeworldrules.relations import always_related, end_alike, is_related
from freeworldrules.settings import Setting
from freeworldrules.terms import checked, checked_within
from freeworldrules.worlds import ByBits, World, closed


def ways(ground, permits, term):
    """The list of all pairs (bits, end) of a term, in ascending order of the bits."""
    check_ground(ground, permits)
    return _ways(permits, [checked(ground, term)])


def ways_of_two(ground, permits, one, other):
    """The list of all triples (bits, end, end) of two terms, in ascending order of the bits."""
    check_ground(ground, permits)
    return _ways(permits, [checked(ground, one), checked(ground, other)])


def holds(ground, permits, one, other, relation="same"):
    """Tells whether in all ways of two terms their ends have the relation."""
    terms = _checked_rule(ground, permits, one, other, relation)
    return always_related(Setting(ground, permits), relation, closed(terms))


def parting(ground, permits, one, other, relation="same"):
    """The least bits by which two terms do not have the relation, or None."""
    terms = _checked_rule(ground, permits, one, other, relation)
    return least_parting(Setting(ground, permits), terms, relation)


def is_parting(ground, permits, one, other, relation, thing):
    """Tells whether any object is bits by which two terms do not have the relation, none of them left over."""
    terms = _checked_rule(ground, permits, one, other, relation)
    if not is_list(thing) or not all([is_bit(bit) for bit in thing]):
        return False
    world = ByBits(Setting(ground, permits), thing)
    parts = world.live(closed(terms), lambda ends: not is_related(world, relation, ends))
    return parts and len(world.answers) >= len(thing)


def classes(ground, permits, terms):
    """The list of the ascending tuples of the indexes of terms that end alike, in the order of their first ones."""
    check_ground(ground, permits)
    if not is_list(terms):
        raise BadTerm(())
    known = [checked_within(ground, thing, (), (index,)) for index, thing in enumerate(terms)]
    setting = Setting(ground, permits)
    found = []
    for index, term in enumerate(known):
        alike = [indexes for indexes in found if end_alike(setting, known[indexes[0]], term)]
        if len(alike) > 0:
            alike[0].append(index)
        else:
            found.append([index])
    return [tuple(indexes) for indexes in found]


def least_parting(setting, terms, relation):
    """The least bits by which two terms do not have the relation in a setting, or None."""
    world = World(setting)
    found = []
    world.live(closed(terms), lambda ends:
               None if is_related(world, relation, ends) else found.append(world.asked_bits()))
    return least_bits(found)


def _ways(permits, terms):
    """The list of the bits and the ends of all ways of terms."""
    world = World(Setting(permits.ground, permits))
    found = []
    world.live(closed(terms), lambda ends: found.append((world.asked_bits(), *[world.end_of(end) for end in ends])))
    return found


def _checked_rule(ground, permits, one, other, relation):
    check_ground(ground, permits)
    terms = [checked(ground, one), checked(ground, other)]
    check_relation(relation)
    return terms
