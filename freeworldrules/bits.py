"""Bits, by which runs answer questions: their order, and the least ones."""


def bits_behind(bits):
    """The first bits, in ascending order, of the ways behind those with these bits, or None."""
    kept = list(bits)
    while len(kept) > 0 and kept[-1] == 1:
        kept.pop()
    if len(kept) == 0:
        return None
    return tuple(kept[:-1]) + (1,)


def least_bits(many):
    """The bits with the fewest ones, then the fewest bits, then the first in order, or None for none."""
    kept = [_without_last_zeros(bits) for bits in many]
    return min(kept, key=lambda bits: (sum(bits), len(bits), bits), default=None)


def _without_last_zeros(bits):
    """The bits that lead the same way, as further ones are 0."""
    kept = list(bits)
    while len(kept) > 0 and kept[-1] == 0:
        kept.pop()
    return tuple(kept)
