"""The free world of all marks at once: which ones a ground lacks is asked of the bits, too."""

from freeworldrules.settings import as_outcome
from freeworldrules.worlds import World


class Unmarked(World):
    """A world in which it is asked which marks lack, where an end or a number hangs on it."""

    def __init__(self, marks, setting, told, bits):
        World.__init__(self, setting, bits)
        self.marks = marks
        self.told = told

    def known_end(self, letter, values):
        """How a use ends as a fact tells that does not lack, or None."""
        for place, (one, names, end) in enumerate(self.told):
            known = tuple([("value", name) for name in names])
            if one == letter and self._is_like(letter, known, values):
                return None if self.answer(("fact", place)) == 1 else as_outcome(end)
        return None

    def number_of(self, run, letter, values):
        """The number of the evaluation that a run comes to, which is noted in the run."""
        view = self.setting.view(letter, run.recent)
        seen = (letter, values, view)
        exchanged = (letter, values[::-1], view)
        if seen not in self.numbers:
            if exchanged in self.numbers and self._is_like(letter, values, values[::-1]):
                self.numbers[seen] = self.numbers[exchanged]
            else:
                self.numbers[seen] = self.new_number(letter)
        number = self.numbers[seen]
        run.met.append((letter, number, values, view))
        return number

    def grown(self):
        """The masks of the marks that lack so far, each with the number of bits behind which it is."""
        lacking = 0
        found = [(0, lacking)]
        for place, question in enumerate(self.answers):
            if self.answers[question] == 1 and question in self.marks:
                lacking = lacking | 1 << self.marks.index(question)
                found.append((place + 1, lacking))
        return found

    def lacking(self):
        """The mask of the marks that have to lack to come this way."""
        return self.grown()[-1][1]

    def _is_like(self, letter, values, others):
        """Tells whether values are the same for a letter, exchanged ones only if it commutes."""
        if values == others:
            return True
        if letter not in self.setting.commutes or values != others[::-1]:
            return False
        return self.answer(("commutes", letter)) == 0
