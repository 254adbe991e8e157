"""What a rule needs: the least permits that break it, and the greatest by which it holds."""

from freeworldrules.checks import check_relation
from freeworldrules.errors import BadTerm
from freeworldrules.kinds import is_list
from freeworldrules.masks import Places, with_least
from freeworldrules.permits import Permits
from freeworldrules.relations import related
from freeworldrules.rules import holds
from freeworldrules.terms import checked, checked_within
from freeworldrules.undecided import Undecided, undecided
from freeworldrules.worlds import bits_behind


def breaking(ground, one, other, relation="same"):
    """The list of the least permits by which two terms do not have the relation."""
    terms = _checked_rule(ground, one, other, relation)
    places = Places(ground)
    return places.in_order(_breaking(places, terms, relation))


def weakest(ground, one, other, relation="same"):
    """The list of the greatest permits by which two terms have the relation."""
    terms = _checked_rule(ground, one, other, relation)
    places = Places(ground)
    every = (1 << len(places.every)) - 1
    return places.in_order([every - gone for gone in _least_gone(places, _breaking(places, terms, relation))])


def needs(ground, one, other, relation="same"):
    """The list of the permissions that stand in some of the least permits that break a rule, in order."""
    terms = _checked_rule(ground, one, other, relation)
    places = Places(ground)
    some = 0
    for mask in _breaking(places, terms, relation):
        some = some | mask
    return places.rows_in(some)


def never(ground, one, other, relation="same"):
    """Tells whether a rule does not even hold without any permission."""
    terms = _checked_rule(ground, one, other, relation)
    return not holds(ground, Permits(ground), terms[0], terms[1], relation)


def compared(ground, pairs, relation="same"):
    """The list of the pairs (i, j) of indexes of rules such that rule j holds wherever rule i does."""
    rules = _checked_rules(ground, pairs)
    check_relation(relation)
    places = Places(ground)
    broken = [_breaking(places, terms, relation) for terms in rules]
    # a rule holds by all permits that have none of the breaking ones
    return [(i, j) for i in range(len(rules)) for j in range(len(rules))
            if i != j and all([_is_any_within(broken[i], mask) for mask in broken[j]])]


def _checked_rule(ground, one, other, relation):
    terms = [checked(ground, one), checked(ground, other)]
    check_relation(relation)
    return terms


def _checked_rules(ground, pairs):
    if not is_list(pairs):
        raise BadTerm(())
    rules = []
    for index, pair in enumerate(pairs):
        if not is_list(pair) or len(pair) != 2:
            raise BadTerm((index,))
        rules.append([checked_within(ground, thing, (), (index, side)) for side, thing in enumerate(pair)])
    return rules


def _breaking(places, terms, relation):
    """The masks of the least permits by which the terms do not have the relation."""
    setting = undecided(places.ground)
    found = []
    bits = ()
    while bits is not None:
        world = Undecided(setting, bits)
        for term in terms:
            world.live(term, {})
        let = places.always
        for _, row in world.let_rows():
            let = let | places.brought[row]
        for row in _rows_to_break(world, relation):
            found = with_least(found, let if row is None else let | places.brought[row])
        bits = bits_behind(_bits_to_known(places, world, found))
    return found


def _rows_to_break(world, relation):
    """The permissions any of which breaks a rule on this way besides those let already; None if these do."""
    one, other = world.ends
    if not related(relation, (one[0], one[1], ()), (other[0], other[1], ())):
        return [None]
    if related(relation, (one[0], one[1], ()), (other[0], other[1], None)):
        return []
    return world.left_unlike()


def _bits_to_known(places, world, found):
    """The bits of a way up to the first one behind which permits that break already are let."""
    let = places.always
    many = 0
    for place, row in world.let_rows():
        if _is_any_within(found, let):
            return world.asked_bits()[:many]
        let = let | places.brought[row]
        many = place + 1
    if _is_any_within(found, let):
        return world.asked_bits()[:many]
    return world.asked_bits()


def _is_any_within(masks, mask):
    return any([mask & one == one for one in masks])


def _least_gone(places, broken):
    """The masks of the fewest permissions, with those that bring them, that lack in permits which do not break."""
    gone = [0]
    for mask in broken:
        behind = [one for one in gone if one & mask != 0]
        # what permits always have cannot lack
        rows = [row for row in places.rows_in(mask) if places.brought[row] & places.always == 0]
        for row in rows:
            for one in gone:
                if one & mask == 0:
                    behind = with_least(behind, one | places.bringing[row])
        gone = behind
    return gone
