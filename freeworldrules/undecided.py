"""The free world of all permits at once: what these let is asked of the bits, too."""

from freeworldrules.settings import numbers_of, pairs_of
from freeworldrules.worlds import World


class Undecided(World):
    """A world in which it is asked which letters show and share, where a number hangs on it."""

    def __init__(self, places, bits):
        World.__init__(self, places.setting, bits)
        self.places = places
        # from letters and values to the evaluations with them: their number, and those ahead of each
        self.first_met = {}

    def number_of(self, run, letter, values):
        """The number of the evaluation that a run comes to, which is noted in the run."""
        number = self._number_behind(letter, self.setting.in_either_order(letter, values), run.recent)
        # what the letter can see is not decided as a whole
        run.met.append((letter, number, values, ()))
        return number

    def grown(self):
        """The masks of what has to be let to come so far, each with the number of bits behind which it is."""
        let = self.places.always
        found = [(0, let)]
        for place, question in enumerate(self.answers):
            # a letter may always fail and stay here: what does neither needs no permission
            if self.answers[question] == 1 and question[0] != "true":
                row = question[:2] if question[0] in ("fails", "stays") else question
                let = let | self.places.brought[row]
                found.append((place + 1, let))
        return found

    def let(self):
        """The mask of what has to be let to come this way."""
        return self.grown()[-1][1]

    def left_unlike(self):
        """The permissions to write and share by which two runs leave something else."""
        one, other = self._recent_behind(0), self._recent_behind(1)
        writes = [("writes", letter) for letter in self.setting.moving
                  if numbers_of(letter, one) != numbers_of(letter, other)]
        shares = [("shares", *pair) for pair in self.setting.sharing if pairs_of(pair, one) != pairs_of(pair, other)]
        # where it was denied that two share, the numbers are those of permits without it
        return [row for row in writes + shares if self.answers.get(row) != 0]

    def _number_behind(self, letter, values, recent):
        like = self.first_met.setdefault((letter, values), [])
        for number, before in like:
            if not self._is_seen(letter, before, recent):
                return number
        number = self.new_number(letter)
        like.append((number, recent))
        return number

    def _recent_behind(self, place):
        return [] if self.ends[place][0] == "stays" else self.runs[place].recent

    def _is_seen(self, letter, before, now):
        """Tells whether a letter sees that other evaluations are ahead of it."""
        if before == now or letter not in self.setting.moving:
            return False
        for one in self.setting.moving:
            if numbers_of(one, before) != numbers_of(one, now) and self.answer(("shows", one, letter)) == 1:
                return True
        for pair in self.setting.sharing:
            if pairs_of(pair, before) != pairs_of(pair, now) and self._is_shown_shared(letter, pair):
                return True
        return False

    def _is_shown_shared(self, letter, pair):
        rows = [("shows", pair[0], letter), ("shows", pair[1], letter), ("shares", *pair)]
        for row in rows:
            if self.answer(row) == 0:
                return False
        return True


def undecided_world(places, terms, bits):
    """The world of a ground in which terms are run one behind the other by bits."""
    world = Undecided(places, bits)
    for term in terms:
        world.live(term, {})
    return world
