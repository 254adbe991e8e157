"""Books of rules that hold, and the terms to which they lead."""

from freeworldrules.checks import check_ground, check_most
from freeworldrules.errors import BadName, Broken, NoRule, Taken
from freeworldrules.kinds import is_name
from freeworldrules.matches import matched, put_for_letters
from freeworldrules.names import all_parts, letters_in
from freeworldrules.relations import end_alike
from freeworldrules.rules import least_parting
from freeworldrules.settings import Setting
from freeworldrules.terms import checked, part_of, paths_in, with_part

MOST_IN_TERM = 14
MOST_USES = 5


class Book:
    """Rules, pairs of terms that end alike within permits, under names."""

    def __init__(self, ground, permits):
        check_ground(ground, permits)
        self._ground = ground
        self._setting = Setting(ground, permits)
        self._rules = {}

    def add(self, name, one, other):
        """Keeps a rule under a name."""
        if not is_name(name):
            raise BadName(name)
        if name in self._rules:
            raise Taken(name)
        rule = (checked(self._ground, one), checked(self._ground, other))
        bits = least_parting(self._setting, rule, "same")
        if bits is not None:
            raise Broken(bits)
        self._rules[name] = rule

    def drop(self, name):
        """Keeps the rule with this name no more."""
        self._check_rule(name)
        del self._rules[name]

    def rule(self, name):
        """The pair of terms with this name."""
        self._check_rule(name)
        return self._rules[name]

    def names(self):
        """The ascending list of the names of rules."""
        return sorted(self._rules)

    def steps(self, term):
        """The list of the triples (name, path, term) of what can be put for a term by a rule at a place."""
        whole = checked(self._ground, term)
        return [step for step in self._candidates(whole) if end_alike(self._setting, whole, step[2])]

    def forms(self, term, most):
        """The list of the terms to which steps lead, the fewest ones first, at most so many."""
        whole = checked(self._ground, term)
        check_most(most)
        found = [whole]
        # terms are nested too deep for keys, so their texts stand for them
        tried = {repr(whole): True}
        place = 0
        while place < len(found) and len(found) < most:
            for _, _, other in self._candidates(found[place]):
                if repr(other) not in tried and len(found) < most:
                    # all that steps lead to ends alike, so each term has to be tried but once
                    tried[repr(other)] = True
                    if end_alike(self._setting, whole, other):
                        found.append(other)
            place += 1
        return found

    def cheapest(self, term, most):
        """The first one of these with the fewest parts."""
        return min(self.forms(term, most), key=lambda form: len(all_parts(form)))

    def _check_rule(self, name):
        if not is_name(name) or name not in self._rules:
            raise NoRule(name)

    def _candidates(self, term):
        """The steps of a term, whether the whole ends alike behind them or not."""
        found = []
        paths = paths_in(term)
        for name in sorted(self._rules):
            one, other = self._rules[name]
            for path in paths:
                terms = matched(self._ground, one, part_of(term, path))
                if terms is not None:
                    whole = with_part(term, path, put_for_letters(other, terms))
                    if whole != term and _is_small(whole):
                        found.append((name, path, whole))
        return found


def _is_small(term):
    return len(all_parts(term)) <= MOST_IN_TERM and len(letters_in(term)) <= MOST_USES
