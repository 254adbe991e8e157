"""The least ones among masks, integers whose bits tell what is let or lacks."""

from freeworldrules.bits import bits_behind


def is_any_within(masks, mask):
    """Tells whether a mask has all bits of one of the masks."""
    return any([mask & one == one for one in masks])


def with_least(masks, mask):
    """Masks, none of which is within another one, and one more: the least ones among them."""
    if is_any_within(masks, mask):
        return masks
    return [one for one in masks if mask & one != mask] + [mask]


def least_masks(world_by, masks_of):
    """The least ones among the masks that are told of all worlds, each of which is made by bits."""
    found = []
    bits = ()
    while bits is not None:
        world = world_by(bits)
        for mask in masks_of(world):
            found = with_least(found, mask)
        bits = bits_behind(_bits_to_known(world, found))
    return found


def least_meeting(masks, parts_of_mask):
    """The least masks, joined of parts, that have a part of each of the masks."""
    met = [0]
    for mask in masks:
        behind = [one for one in met if one & mask != 0]
        for part in parts_of_mask(mask):
            for one in met:
                if one & mask == 0:
                    behind = with_least(behind, one | part)
        met = behind
    return met


def _bits_to_known(world, found):
    """The bits of a way up to the first one behind which no further masks can be least."""
    bits = world.asked_bits()
    for many, mask in world.grown():
        if is_any_within(found, mask):
            return bits[:many]
    return bits
