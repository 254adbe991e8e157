"""Marks of grounds: which letters commute, and the facts; and on which of them rules rest."""

from freeworldrules.checks import check_ground, check_relation
from freeworldrules.errors import BadMark
from freeworldrules.grounds import Ground
from freeworldrules.kinds import is_list, is_number
from freeworldrules.leasts import least_meeting, places_in
from freeworldrules.relations import is_related
from freeworldrules.settings import Setting
from freeworldrules.terms import checked
from freeworldrules.unmarked import Unmarked
from freeworldrules.worlds import closed


def marks_of(ground):
    """The list of the marks of a ground, in order."""
    commuting = [("commutes", letter) for letter in ground.commuting()]
    return commuting + [("fact", place) for place in range(len(ground.facts()))]


def with_marks(ground, some):
    """The ground with these marks alone."""
    marks = _checked_marks(ground, some)
    commuting = [letter for letter in ground.commuting() if ("commutes", letter) in marks]
    facts = [fact for place, fact in enumerate(ground.facts()) if ("fact", place) in marks]
    return Ground(ground.letters(), ground.fixed(), commuting, facts)


def resting(ground, permits, one, other, relation="same"):
    """The list of the least tuples of marks by which two terms have the relation."""
    check_ground(ground, permits)
    terms = [checked(ground, one), checked(ground, other)]
    check_relation(relation)
    marks = marks_of(ground)
    world = Unmarked(Setting(ground, permits), marks, ground.facts())
    world.live(closed(terms), lambda ends: None if is_related(world, relation, ends) else world.note(world.mask))
    least = least_meeting(world.least, lambda mask: [1 << place for place in places_in(mask)])
    ordered = sorted([places_in(mask) for mask in least], key=lambda places: (len(places), places))
    return [tuple([marks[place] for place in places]) for places in ordered]


def _checked_marks(ground, some):
    """The list of marks as they are told by the ground."""
    if not is_list(some):
        raise BadMark(0)
    marks = marks_of(ground)
    found = []
    for index, thing in enumerate(some):
        if not _is_like_mark(thing) or tuple(thing) not in marks or tuple(thing) in found:
            raise BadMark(index)
        found.append(tuple(thing))
    return found


def _is_like_mark(thing):
    """Tells whether a thing has the form of a mark: for Python, True would be the place 1."""
    if not is_list(thing) or len(thing) != 2:
        return False
    return isinstance(thing[1], str) or is_number(thing[1])

