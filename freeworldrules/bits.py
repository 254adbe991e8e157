"""Bits, by which runs answer questions, and the least ones of these."""


def least_bits(many):
    """The bits with the fewest ones, then the fewest bits, then the first in order, or None for none."""
    kept = [_without_last_zeros(bits) for bits in many]
    return min(kept, key=lambda bits: (sum(bits), len(bits), bits), default=None)


def _without_last_zeros(bits):
    """The bits that lead the same way, as further ones are 0."""
    kept = list(bits)
    while len(kept) > 0 and kept[-1] == 0:
        kept.pop()
    return tuple(kept)
