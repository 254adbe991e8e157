"""Events: what can happen in runs of terms, and the permits that let it."""

from freeworldrules.bits import least_bits
from freeworldrules.checks import check_ground
from freeworldrules.errors import BadEvent
from freeworldrules.kinds import is_list, is_name, is_number
from freeworldrules.masks import Places
from freeworldrules.names import letters_in
from freeworldrules.settings import Setting
from freeworldrules.steps import noting_paths
from freeworldrules.terms import checked, paths_in
from freeworldrules.undecided import Undecided
from freeworldrules.worlds import World, closed, times

MOST_TIMES = 9


def lets(ground, permits, term, event):
    """Tells whether some way of a term meets an event."""
    check_ground(ground, permits)
    whole, asked = _checked_event(ground, term, event)
    world = World(Setting(ground, permits))
    return bool(_live(world, whole, asked, lambda: True))


def way_to(ground, permits, term, event):
    """The least bits by which a term meets an event, or None."""
    check_ground(ground, permits)
    whole, asked = _checked_event(ground, term, event)
    world = World(Setting(ground, permits))
    found = []
    _live(world, whole, asked, lambda: found.append(world.asked_bits()))
    return least_bits(found)


def letting(ground, term, event):
    """The list of the least permits that let an event of a term."""
    whole, asked = _checked_event(ground, term, event)
    places = Places(ground, letters_in(whole))
    return places.permits_in_order(_letting(places, whole, asked))


def barring(ground, term, event):
    """The list of the greatest permits that do not let an event of a term."""
    whole, asked = _checked_event(ground, term, event)
    places = Places(ground, letters_in(whole))
    return places.greatest_without(_letting(places, whole, asked))


def _letting(places, term, event):
    """The masks of the least permits that let an event."""
    world = Undecided(places)
    _live(world, term, event, lambda: world.note(world.mask))
    return world.least


def _live(world, term, event, behind):
    """Goes on behind each way of a term that meets an event."""
    noting = noting_paths(term, ()) if event[0] == "reached" else term
    return world.live(closed([noting]), lambda ends: behind() if _is_met(world, ends[0], event) else False)


def _checked_event(ground, term, event):
    """The pair of a term and of an event of it, of tuples throughout."""
    whole = checked(ground, term)
    if not is_list(event) or len(event) == 0 or not _is_event(ground, whole, event[0], event[1:]):
        raise BadEvent(event)
    if event[0] == "reached":
        return whole, ("reached", tuple(event[1]))
    return whole, tuple(event)


def _is_event(ground, term, word, things):
    """Tells whether a word, which may be any object, and things are an event of a term."""
    if word == "stays":
        return len(things) == 0
    if word == "often":
        return (len(things) == 2 and things[0] in ground
                and is_number(things[1]) and 1 <= things[1] <= MOST_TIMES)
    if len(things) != 1:
        return False
    if word == "failed":
        return things[0] in ground
    if word == "fail":
        return is_name(things[0])
    return word == "reached" and _is_path(term, things[0])


def _is_path(term, thing):
    # for Python, True would be the number 1
    if not is_list(thing) or not all([is_number(place) for place in thing]):
        return False
    return tuple(thing) in paths_in(term)


def _is_met(world, end, event):
    """Tells whether the way of a world that has come to an end meets an event."""
    if event[0] == "reached":
        return event[1] in world.reached
    if event[0] == "often":
        return times(event[1], world.met) >= event[2]
    if event[0] == "stays":
        return end[0] == "stays"
    # a failure of a letter is told with its number, too
    return end[0] == "fails" and end[1][:2] == event
