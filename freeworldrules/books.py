"""Books of rules that hold, and the terms to which they lead."""

from freeworldrules.checks import check_ground, check_most
from freeworldrules.errors import BadName, Broken, NoRule, Taken
from freeworldrules.kinds import is_name
from freeworldrules.matches import matched, put_for_letters
from freeworldrules.names import letters_in
from freeworldrules.rules import holds, parting
from freeworldrules.terms import checked, part_at, parts, put_at, size

MOST_IN_TERM = 14
MOST_USES = 5


class Book:
    """Rules, pairs of terms that end alike within permits, under names."""

    def __init__(self, ground, permits):
        check_ground(ground, permits)
        self._ground = ground
        self._permits = permits
        self._rules = {}

    def add(self, name, one, other):
        """Keeps a rule under a name."""
        if not is_name(name):
            raise BadName(name)
        if name in self._rules:
            raise Taken(name)
        rule = (checked(self._ground, one), checked(self._ground, other))
        bits = parting(self._ground, self._permits, rule[0], rule[1])
        if bits is not None:
            raise Broken(bits)
        self._rules[name] = rule

    def drop(self, name):
        """Keeps the rule with this name no more."""
        self._check_rule(name)
        del self._rules[name]

    def rule(self, name):
        """The pair of terms with this name."""
        self._check_rule(name)
        return self._rules[name]

    def names(self):
        """The ascending list of the names of rules."""
        return sorted(self._rules)

    def steps(self, term):
        """The list of the triples (name, path, term) of what can be put for a term by a rule at a place."""
        whole = checked(self._ground, term)
        return [step for step in self._candidates(whole) if self._end_alike(whole, step[2])]

    def forms(self, term, most):
        """The list of the terms to which steps lead, the fewest ones first, at most so many."""
        whole = checked(self._ground, term)
        check_most(most)
        found = [whole]
        # terms are nested too deep for keys, so their texts stand for them
        tried = {repr(whole): True}
        place = 0
        while place < len(found) and len(found) < most:
            for _, _, other in self._candidates(found[place]):
                if repr(other) not in tried and len(found) < most:
                    # all that steps lead to ends alike, so each term has to be tried but once
                    tried[repr(other)] = True
                    if self._end_alike(whole, other):
                        found.append(other)
            place += 1
        return found

    def cheapest(self, term, most):
        """The first one of these with the fewest parts."""
        return min(self.forms(term, most), key=lambda form: size(self._ground, form))

    def _check_rule(self, name):
        if not is_name(name) or name not in self._rules:
            raise NoRule(name)

    def _end_alike(self, one, other):
        return holds(self._ground, self._permits, one, other)

    def _candidates(self, term):
        """The steps of a term, whether the whole ends alike behind them or not."""
        found = []
        for name in sorted(self._rules):
            for path in parts(self._ground, term):
                other = self._put_at_place(self._rules[name], term, path)
                if other is not None and other != term and self._is_small(other):
                    found.append((name, path, other))
        return found

    def _is_small(self, term):
        return size(self._ground, term) <= MOST_IN_TERM and len(letters_in(term)) <= MOST_USES

    def _put_at_place(self, rule, term, path):
        terms = matched(self._ground, rule[0], part_at(self._ground, term, path))
        if terms is None:
            return None
        return put_at(self._ground, term, path, put_for_letters(rule[1], terms))
