"""What a rule needs: the least permits that break it, and the greatest by which it holds."""

from freeworldrules.checks import check_relation
from freeworldrules.errors import BadTerm
from freeworldrules.kinds import is_list
from freeworldrules.leasts import is_any_within
from freeworldrules.masks import Places
from freeworldrules.names import letters_in
from freeworldrules.permits import in_order, rows_always
from freeworldrules.relations import always_related, related
from freeworldrules.settings import Setting
from freeworldrules.terms import checked, checked_within
from freeworldrules.undecided import Undecided
from freeworldrules.worlds import closed


def breaking(ground, one, other, relation="same"):
    """The list of the least permits by which two terms do not have the relation."""
    terms = _checked_rule(ground, one, other, relation)
    places = _places(ground, [terms])
    return places.permits_in_order(_breaking(places, terms, relation))


def weakest(ground, one, other, relation="same"):
    """The list of the greatest permits by which two terms have the relation."""
    terms = _checked_rule(ground, one, other, relation)
    places = _places(ground, [terms])
    return places.greatest_without(_breaking(places, terms, relation))


def needs(ground, one, other, relation="same"):
    """The list of the permissions that stand in some of the least permits that break a rule, in order."""
    terms = _checked_rule(ground, one, other, relation)
    places = _places(ground, [terms])
    some = {row: True for permits in places.permits_in_order(_breaking(places, terms, relation)) for row in permits}
    return in_order(ground, some)


def never(ground, one, other, relation="same"):
    """Tells whether a rule does not even hold without any permission."""
    terms = _checked_rule(ground, one, other, relation)
    return not always_related(Setting(ground, rows_always(ground)), relation, closed(terms))


def compared(ground, pairs, relation="same"):
    """The list of the pairs (i, j) of indexes of rules such that rule j holds wherever rule i does."""
    rules = _checked_rules(ground, pairs)
    check_relation(relation)
    places = _places(ground, rules)
    broken = [_breaking(places, terms, relation) for terms in rules]
    # a rule holds by all permits that have none of the breaking ones
    return [(i, j) for i in range(len(rules)) for j in range(len(rules))
            if i != j and all([is_any_within(broken[i], mask) for mask in broken[j]])]


def _checked_rule(ground, one, other, relation):
    terms = [checked(ground, one), checked(ground, other)]
    check_relation(relation)
    return terms


def _checked_rules(ground, pairs):
    if not is_list(pairs):
        raise BadTerm(())
    rules = []
    for index, pair in enumerate(pairs):
        if not is_list(pair) or len(pair) != 2:
            raise BadTerm((index,))
        rules.append([checked_within(ground, thing, (), (index, side)) for side, thing in enumerate(pair)])
    return rules


def _places(ground, rules):
    """The places of the permissions on which rules can hang, those of the letters in them."""
    return Places(ground, [letter for terms in rules for term in terms for letter in letters_in(term)])


def _breaking(places, terms, relation):
    """The masks of the least permits by which the terms do not have the relation."""
    world = Undecided(places)
    world.live(closed(terms), lambda ends: _note_breaking(world, relation, ends))
    return world.least


def _note_breaking(world, relation, ends):
    """Notes what has to be let to come a way and break a rule on it."""
    one, other = ends
    if not related(relation, (one[0], one[1], ()), (other[0], other[1], ())):
        world.note(world.mask)
    elif one != other and not related(relation, (one[0], one[1], ()), (other[0], other[1], None)):
        for row in world.left_unlike(one[2], other[2]):
            world.note(world.mask | world.masks_of[row])
