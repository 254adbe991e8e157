"""Runs of terms in the free world by bits."""

from freeworldrules.checks import check_bits, check_ground
from freeworldrules.settings import Setting
from freeworldrules.terms import checked
from freeworldrules.worlds import ByBits, closed


def run(ground, permits, term, bits=()):
    """The end of the run of a term by bits."""
    return _told(ground, permits, [term], bits, lambda world, ends: world.end_of(ends[0]))


def questions(ground, permits, term, bits=()):
    """The list of the questions that are asked, each once."""
    return _told(ground, permits, [term], bits, lambda world, _: list(world.answers))


def evaluations(ground, permits, term, bits=()):
    """The list of all evaluations (letter, number, values, view), in order."""
    return _told(ground, permits, [term], bits, lambda world, _: list(world.met))


def both(ground, permits, one, other, bits=()):
    """The pair of the ends of two terms, run one behind the other."""
    return _told(ground, permits, [one, other], bits, lambda world, ends: tuple([world.end_of(end) for end in ends]))


def _told(ground, permits, things, bits, tell):
    """What is told of the world and the ends behind the run of things that are terms."""
    check_ground(ground, permits)
    terms = [checked(ground, thing) for thing in things]
    check_bits(bits)
    world = ByBits(Setting(ground, permits), bits)
    return world.live(closed(terms), lambda ends: tell(world, ends))
