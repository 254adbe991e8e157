"""Permits as integers, a bit for each permission of some letters."""

from freeworldrules.leasts import least_meeting, places_in
from freeworldrules.permits import Permits, permits_with, rows_always, with_brought
from freeworldrules.settings import Setting


class Places:
    """The places of the permissions of those letters of a ground on which something hangs."""

    def __init__(self, ground, letters):
        self.ground = ground
        among = {letter: True for letter in letters}
        self.every = [row for row in ground.places if row[1] in among and row[-1] in among]
        self.setting = Setting(ground, self.every)
        place_of = {row: place for place, row in enumerate(self.every)}
        # what permits always have
        self.always = sum([1 << place_of[row] for row in rows_always(ground) if row in place_of])
        # a permission with those that it brings
        self.brought = {row: sum([1 << place_of[one] for one in with_brought(row)]) for row in self.every}

    def rows_in(self, mask):
        """The list of the permissions of a mask, in order."""
        return [self.every[place] for place in places_in(mask)]

    def permits_in_order(self, masks):
        """The list of the permits with the permissions of masks, by the number of rows, then by their places."""
        return _least_first([Permits(self.ground, self.rows_in(mask)) for mask in masks])

    def greatest_without(self, masks):
        """The list of the greatest permits that have none of the masks, in the same order."""
        return _least_first([self._all_but(gone) for gone in least_meeting(masks, lambda mask: self._gone_with(mask))])

    def _gone_with(self, mask):
        """What can lack of a mask, a permission with those that bring it; what permits always have cannot."""
        parts = []
        for place in places_in(mask & ~self.always):
            parts.append(sum([1 << at for at, one in enumerate(self.every) if self.brought[one] >> place & 1 == 1]))
        return parts

    def _all_but(self, mask):
        """The permits with all permissions but those of a mask, and those that bring them."""
        gone = {row: True for row in self.rows_in(mask)}
        kept = [row for row in self.ground.places if not any([one in gone for one in with_brought(row)])]
        return permits_with(self.ground, kept)


def _least_first(many):
    return sorted(many, key=lambda permits: (len(permits), [permits.ground.places[row] for row in permits]))
