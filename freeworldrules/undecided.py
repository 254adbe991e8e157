"""The free world of all permits at once: what these let is asked of the bits, too."""

from freeworldrules.leasts import Growing
from freeworldrules.settings import numbers_of, pairs_of


class Undecided(Growing):
    """A world in which it is asked which letters show and share, where a number hangs on it."""

    def __init__(self, places):
        Growing.__init__(self, places.setting, places.always, places.brought)
        # from letters and values to the evaluations with them: their number, and those ahead of each
        self.first_met = {}

    def use_untold(self, letter, values, told, recent, behind):
        """Goes on behind a use that no fact tells, the values being told apart as they are told."""
        return self.use_like(letter, self.first_met.setdefault((letter, told), []), 0, recent, behind)

    def use_like(self, letter, like, place, recent, behind):
        """Goes on behind an evaluation that is like one of those from a place on, or like none."""
        if place < len(like):
            number, before = like[place]
            return self.see(letter, before, recent, lambda is_seen:
                            self.use_like(letter, like, place + 1, recent, behind) if is_seen
                            else self.evaluate((letter, number), recent, behind))
        number = self.new_number(letter)
        like.append((number, recent))
        self.evaluate((letter, number), recent, behind)
        like.pop()
        self.highest[letter] = number - 1
        return False

    def see(self, letter, before, now, behind):
        """Goes on with whether a letter sees that other evaluations are ahead of it."""
        if before == now or letter not in self.setting.moving:
            return behind(False)
        return self.ask_any(self.rows_to_see(letter, before, now), 0, behind)

    def rows_to_see(self, letter, before, now):
        """The list of the lists of permissions by which a letter sees it, all of one of them."""
        met = {one: True for one, _ in before + now}
        alone = [[("shows", one, letter)] for one in met if numbers_of(one, before) != numbers_of(one, now)]
        pairs = [pair for pair in self.setting.sharing if pairs_of(pair, before) != pairs_of(pair, now)]
        return alone + [[("shows", pair[0], letter), ("shows", pair[1], letter), ("shares", *pair)] for pair in pairs]

    def ask_any(self, choices, place, behind):
        """Goes on with whether all permissions of a choice, from a place on, are let."""
        if place == len(choices):
            return behind(False)
        return self.ask_all(choices[place], 0, lambda are_let:
                            behind(True) if are_let else self.ask_any(choices, place + 1, behind))

    def ask_all(self, rows, place, behind):
        """Goes on with whether all permissions from a place on are let."""
        if place == len(rows):
            return behind(True)
        return self.ask(rows[place], lambda bit: self.ask_all(rows, place + 1, behind) if bit == 1 else behind(False))

    def left_unlike(self, one, other):
        """The permissions to write and share by which evaluations leave something else than others."""
        met = {letter: True for letter, _ in one + other}
        writes = [("writes", letter) for letter in met if numbers_of(letter, one) != numbers_of(letter, other)]
        shares = [("shares", *pair) for pair in self.setting.sharing if pairs_of(pair, one) != pairs_of(pair, other)]
        return writes + shares
