"""The least ones among masks, integers whose bits tell what is let or lacks."""

from freeworldrules.worlds import World


class Growing(World):
    """A world along the ways of which a mask grows by answers, and the least masks that were found on ways so far."""

    def __init__(self, setting, mask, masks_of):
        World.__init__(self, setting)
        self.mask = mask
        # from the questions, or the permissions for which they ask, to what their ones add
        self.masks_of = masks_of
        self.least = []

    def ask(self, question, behind):
        """Goes on behind a question with 0, and with 1 where a mask can be found that is not known already."""
        answers = self.answers
        if question in answers:
            return behind(answers[question])
        answers[question] = 0
        behind(0)
        before = self.mask
        # a letter may always fail and stay here: what does neither needs no permission
        row = question[:2] if question[0] in ("fails", "stays") else question
        if row in self.masks_of:
            self.mask = before | self.masks_of[row]
        if not is_any_within(self.least, self.mask):
            answers[question] = 1
            behind(1)
        self.mask = before
        del answers[question]
        return False

    def note(self, mask):
        """Notes a mask that was found."""
        self.least = with_least(self.least, mask)


def is_any_within(masks, mask):
    """Tells whether a mask has all bits of one of the masks."""
    for one in masks:
        if mask & one == one:
            return True
    return False


def with_least(masks, mask):
    """Masks, none of which is within another one, and one more: the least ones among them."""
    if is_any_within(masks, mask):
        return masks
    return [one for one in masks if mask & one != mask] + [mask]


def least_meeting(masks, parts_of_mask):
    """The least masks, joined of parts, that have a part of each of the masks."""
    met = [0]
    for mask in masks:
        behind = [one for one in met if one & mask != 0]
        for part in parts_of_mask(mask):
            for one in met:
                if one & mask == 0:
                    behind = with_least(behind, one | part)
        met = behind
    return met


def places_in(mask):
    """The list of the places of the bits of a mask, ascending."""
    return [place for place in range(mask.bit_length()) if mask >> place & 1 == 1]
