"""The free world of all marks at once: which ones a ground lacks is asked of the bits, too."""

from freeworldrules.grounds import as_outcome
from freeworldrules.leasts import Growing


class Unmarked(Growing):
    """A world in which it is asked which marks lack, where an end or a number hangs on it."""

    def __init__(self, setting, marks, told):
        Growing.__init__(self, setting, 0, {mark: 1 << place for place, mark in enumerate(marks)})
        self.told = told

    def use(self, letter, values, recent, behind):
        """Goes on behind a use of a letter whose parts have these values."""
        marks, end = self.fact_for(letter, values)
        if end is None:
            return self.use_in_order(letter, values, recent, behind)
        kind, what = as_outcome(end)
        return self.have_all(marks, 0, lambda has_all: behind(kind, what, recent) if has_all
                             else self.use_in_order(letter, values, recent, behind))

    def fact_for(self, letter, values):
        """The list of the marks by which a fact tells how a use ends, and this end; None if no fact does."""
        for place, (one, names, end) in enumerate(self.told):
            known = tuple([("value", name) for name in names])
            if one == letter and known == values:
                return [("fact", place)], end
            if one == letter and letter in self.setting.commutes and known[::-1] == values:
                return [("commutes", letter), ("fact", place)], end
        return [], None

    def have_all(self, marks, place, behind):
        """Goes on with whether no mark from a place on lacks."""
        if place == len(marks):
            return behind(True)
        return self.ask(marks[place], lambda bit:
                        self.have_all(marks, place + 1, behind) if bit == 0 else behind(False))

    def use_in_order(self, letter, values, recent, behind):
        """Goes on behind a use that no fact tells, the same one as with exchanged values if the letter commutes."""
        view = self.setting.view(letter, recent)
        exchanged = (letter, values[::-1], view)
        if letter not in self.setting.commutes or exchanged not in self.numbers:
            return self.use_untold(letter, values, values, recent, behind)
        met = (letter, self.numbers[exchanged], values, view)
        return self.ask(("commutes", letter), lambda bit: self.evaluate(met, recent, behind) if bit == 0
                        else self.use_untold(letter, values, values, recent, behind))
