"""Events: what can happen in runs of terms, and the permits that let it."""

from freeworldrules.bits import least_bits
from freeworldrules.checks import check_ground
from freeworldrules.errors import BadEvent
from freeworldrules.kinds import is_list, is_name, is_number
from freeworldrules.leasts import least_masks
from freeworldrules.masks import Places
from freeworldrules.terms import checked, parts
from freeworldrules.undecided import undecided_world
from freeworldrules.worlds import all_worlds, first_world

MOST_TIMES = 9


def lets(ground, permits, term, event):
    """Tells whether some way of a term meets an event."""
    check_ground(ground, permits)
    whole, asked = _checked_event(ground, term, event)
    return first_world(permits, [whole], lambda world: _is_met(world, asked)) is not None


def way_to(ground, permits, term, event):
    """The least bits by which a term meets an event, or None."""
    check_ground(ground, permits)
    whole, asked = _checked_event(ground, term, event)
    return least_bits([world.asked_bits() for world in all_worlds(permits, [whole], {}) if _is_met(world, asked)])


def letting(ground, term, event):
    """The list of the least permits that let an event of a term."""
    whole, asked = _checked_event(ground, term, event)
    places = Places(ground)
    return places.in_order(_letting(places, whole, asked))


def barring(ground, term, event):
    """The list of the greatest permits that do not let an event of a term."""
    whole, asked = _checked_event(ground, term, event)
    places = Places(ground)
    return places.in_order(places.greatest_without(_letting(places, whole, asked)))


def _checked_event(ground, term, event):
    """The pair of a term and of an event of it, of tuples throughout."""
    whole = checked(ground, term)
    if not is_list(event) or len(event) == 0 or not _is_event(ground, whole, event[0], event[1:]):
        raise BadEvent(event)
    if event[0] == "reached":
        return whole, ("reached", tuple(event[1]))
    return whole, tuple(event)


def _is_event(ground, term, word, things):
    """Tells whether a word, which may be any object, and things are an event of a term."""
    if word == "stays":
        return len(things) == 0
    if word == "often":
        return (len(things) == 2 and things[0] in ground
                and is_number(things[1]) and 1 <= things[1] <= MOST_TIMES)
    if len(things) != 1:
        return False
    if word == "failed":
        return things[0] in ground
    if word == "fail":
        return is_name(things[0])
    return word == "reached" and _is_path(ground, term, things[0])


def _is_path(ground, term, thing):
    # for Python, True would be the number 1
    if not is_list(thing) or not all([is_number(place) for place in thing]):
        return False
    return tuple(thing) in parts(ground, term)


def _is_met(world, event):
    """Tells whether the way of a world meets an event."""
    kind, what, _ = world.ends[0]
    if event[0] == "reached":
        return event[1] in world.runs[0].reached
    if event[0] == "often":
        return world.runs[0].times(event[1]) >= event[2]
    if event[0] == "stays":
        return kind == "stays"
    # a failure of a letter is told with its number, too
    return kind == "fails" and what[:2] == event


def _letting(places, term, event):
    """The masks of the least permits that let an event."""
    return least_masks(lambda bits: undecided_world(places, [term], bits),
                       lambda world: [world.let()] if _is_met(world, event) else [])
