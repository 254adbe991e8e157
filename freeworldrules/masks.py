"""Permits as integers, a bit for each permission of a ground, and the least ones among many of them."""

from freeworldrules.permits import Permits, rows_always, with_brought


class Places:
    """The places of all permissions of a ground, in order."""

    def __init__(self, ground):
        self.ground = ground
        self.every = Permits.full(ground).rows()
        self.place_of = {row: place for place, row in enumerate(self.every)}
        # what permits always have
        self.always = sum([1 << self.place_of[row] for row in self.every if row in rows_always(ground)])
        # a permission with those that it brings, and one with those that bring it
        self.brought = {row: sum([1 << self.place_of[one] for one in with_brought(row)]) for row in self.every}
        self.bringing = {row: sum([1 << self.place_of[one] for one in self.every if row in with_brought(one)])
                         for row in self.every}

    def rows_in(self, mask):
        """The list of the permissions of a mask, in order."""
        return [row for place, row in enumerate(self.every) if mask >> place & 1 == 1]

    def in_order(self, masks):
        """The list of the permits of masks, by the number of rows, then by their places."""
        rows = [[place for place in range(len(self.every)) if mask >> place & 1 == 1] for mask in masks]
        ordered = sorted(rows, key=lambda places: (len(places), places))
        return [Permits(self.ground, [self.every[place] for place in places]) for places in ordered]


def with_least(masks, mask):
    """Masks, none of which is within another one, and one more: the least ones among them."""
    if any([mask & one == one for one in masks]):
        return masks
    return [one for one in masks if mask & one != mask] + [mask]
