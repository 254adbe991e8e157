"""What many functions ask of what they are passed, in the order of their parameters."""

from freeworldrules.errors import BadBits, BadNumber, BadRelation, UnlikeGrounds
from freeworldrules.kinds import is_list, is_number

RELATIONS = ("same", "faults", "no worse")


def check_ground(ground, permits):
    """Raises UnlikeGrounds for permits of another ground."""
    if permits.ground != ground:
        raise UnlikeGrounds()


def check_bits(bits):
    """Raises BadBits for the first thing that is no bit."""
    if not is_list(bits):
        raise BadBits(0)
    for index, bit in enumerate(bits):
        if not is_bit(bit):
            raise BadBits(index)


def is_bit(thing):
    """Tells whether a thing is the integer 0 or 1."""
    return is_number(thing) and 0 <= thing <= 1


def check_relation(relation):
    """Raises BadRelation for what is no word of a relation."""
    if relation not in RELATIONS:
        raise BadRelation(relation)


def check_most(most):
    """Raises BadNumber for what is no integer from 1 on."""
    if not is_number(most) or most < 1:
        raise BadNumber(most)
