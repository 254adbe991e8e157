"""Permits as integers, a bit for each permission of a ground."""

from freeworldrules.leasts import least_meeting
from freeworldrules.permits import Permits, rows_always, with_brought
from freeworldrules.settings import Setting


class Places:
    """The places of all permissions of a ground, in order."""

    def __init__(self, ground):
        full = Permits.full(ground)
        self.ground = ground
        self.setting = Setting(full)
        self.every = full.rows()
        self.place_of = {row: place for place, row in enumerate(self.every)}
        # what permits always have
        self.always = sum([1 << self.place_of[row] for row in self.every if row in rows_always(ground)])
        # a permission with those that it brings, and one with those that bring it
        self.brought = {row: sum([1 << self.place_of[one] for one in with_brought(row)]) for row in self.every}
        self.bringing = {row: sum([1 << self.place_of[one] for one in self.every if row in with_brought(one)])
                         for row in self.every}

    def rows_in(self, mask):
        """The list of the permissions of a mask, in order."""
        return [row for place, row in enumerate(self.every) if mask >> place & 1 == 1]

    def in_order(self, masks):
        """The list of the permits of masks, by the number of rows, then by their places."""
        rows = [[place for place in range(len(self.every)) if mask >> place & 1 == 1] for mask in masks]
        ordered = sorted(rows, key=lambda places: (len(places), places))
        return [Permits(self.ground, [self.every[place] for place in places]) for places in ordered]

    def greatest_without(self, masks):
        """The masks of the greatest permits that have none of the masks."""
        every = (1 << len(self.every)) - 1
        return [every - gone for gone in least_meeting(masks, lambda mask: self._gone_with(mask))]

    def _gone_with(self, mask):
        """What can lack of a mask, a permission with those that bring it; what permits always have cannot."""
        return [self.bringing[row] for row in self.rows_in(mask) if self.brought[row] & self.always == 0]
