"""What a rule needs: the least permits that break it, and the greatest by which it holds."""

from freeworldrules.checks import check_relation
from freeworldrules.errors import BadTerm
from freeworldrules.kinds import is_list
from freeworldrules.leasts import is_any_within, least_masks
from freeworldrules.masks import Places
from freeworldrules.permits import Permits
from freeworldrules.relations import related
from freeworldrules.rules import holds
from freeworldrules.terms import checked, checked_within
from freeworldrules.undecided import undecided_world


def breaking(ground, one, other, relation="same"):
    """The list of the least permits by which two terms do not have the relation."""
    terms = _checked_rule(ground, one, other, relation)
    places = Places(ground)
    return places.in_order(_breaking(places, terms, relation))


def weakest(ground, one, other, relation="same"):
    """The list of the greatest permits by which two terms have the relation."""
    terms = _checked_rule(ground, one, other, relation)
    places = Places(ground)
    return places.in_order(places.greatest_without(_breaking(places, terms, relation)))


def needs(ground, one, other, relation="same"):
    """The list of the permissions that stand in some of the least permits that break a rule, in order."""
    terms = _checked_rule(ground, one, other, relation)
    places = Places(ground)
    some = 0
    for mask in _breaking(places, terms, relation):
        some = some | mask
    return places.rows_in(some)


def never(ground, one, other, relation="same"):
    """Tells whether a rule does not even hold without any permission."""
    terms = _checked_rule(ground, one, other, relation)
    return not holds(ground, Permits(ground), terms[0], terms[1], relation)


def compared(ground, pairs, relation="same"):
    """The list of the pairs (i, j) of indexes of rules such that rule j holds wherever rule i does."""
    rules = _checked_rules(ground, pairs)
    check_relation(relation)
    places = Places(ground)
    broken = [_breaking(places, terms, relation) for terms in rules]
    # a rule holds by all permits that have none of the breaking ones
    return [(i, j) for i in range(len(rules)) for j in range(len(rules))
            if i != j and all([is_any_within(broken[i], mask) for mask in broken[j]])]


def _checked_rule(ground, one, other, relation):
    terms = [checked(ground, one), checked(ground, other)]
    check_relation(relation)
    return terms


def _checked_rules(ground, pairs):
    if not is_list(pairs):
        raise BadTerm(())
    rules = []
    for index, pair in enumerate(pairs):
        if not is_list(pair) or len(pair) != 2:
            raise BadTerm((index,))
        rules.append([checked_within(ground, thing, (), (index, side)) for side, thing in enumerate(pair)])
    return rules


def _breaking(places, terms, relation):
    """The masks of the least permits by which the terms do not have the relation."""
    return least_masks(lambda bits: undecided_world(places, terms, bits),
                       lambda world: _masks_to_break(places, world, relation))


def _masks_to_break(places, world, relation):
    """The masks of what has to be let to come this way and break a rule on it."""
    one, other = world.ends
    if not related(relation, (one[0], one[1], ()), (other[0], other[1], ())):
        return [world.let()]
    if related(relation, (one[0], one[1], ()), (other[0], other[1], None)):
        return []
    return [world.let() | places.brought[row] for row in world.left_unlike()]
