"""Runs of terms in the free world by bits."""

from freeworldrules.checks import check_bits, check_ground
from freeworldrules.terms import checked
from freeworldrules.worlds import world_by


def run(ground, permits, term, bits=()):
    """The end of the run of a term by bits."""
    return _world(ground, permits, [term], bits).ends[0]


def questions(ground, permits, term, bits=()):
    """The list of the questions that are asked, each once."""
    return list(_world(ground, permits, [term], bits).answers)


def evaluations(ground, permits, term, bits=()):
    """The list of all evaluations (letter, number, values, view), in order."""
    return _world(ground, permits, [term], bits).runs[0].met


def both(ground, permits, one, other, bits=()):
    """The pair of the ends of two terms, run one behind the other."""
    return tuple(_world(ground, permits, [one, other], bits).ends)


def _world(ground, permits, things, bits):
    check_ground(ground, permits)
    terms = [checked(ground, thing) for thing in things]
    check_bits(bits)
    return world_by(permits, terms, bits)
