"""Desks: permits that change, and the rules that are watched meanwhile."""

from freeworldrules.checks import check_ground, check_relation
from freeworldrules.errors import BadName, Held, NoDeed, NotHeld
from freeworldrules.kinds import is_name
from freeworldrules.permits import Permits
from freeworldrules.relations import always_related
from freeworldrules.settings import Setting
from freeworldrules.terms import checked
from freeworldrules.worlds import closed


class Desk:
    """Permits that deeds change, and rules whose states are told when they change by that."""

    def __init__(self, ground, permits):
        check_ground(ground, permits)
        self._ground = ground
        self._permits = permits
        self._watched = {}
        self._states = {}
        # the permits ahead of each deed that is done, and behind each one that is taken back, the next one last
        self._ahead = []
        self._behind = []

    def watch(self, name, one, other, relation="same"):
        """Watches a rule under a name."""
        if not is_name(name):
            raise BadName(name)
        if name in self._watched:
            raise Held(name)
        terms = (checked(self._ground, one), checked(self._ground, other))
        check_relation(relation)
        self._watched[name] = (*terms, relation)
        self._states[name] = self._state_within(self._permits, name)

    def unwatch(self, name):
        """Watches the rule with this name no more."""
        self._check_held(name)
        del self._watched[name]
        del self._states[name]

    def names(self):
        """The ascending list of the names of the rules that are watched."""
        return sorted(self._watched)

    def state(self, name):
        """Tells whether the rule with this name holds within the permits."""
        self._check_held(name)
        return self._states[name]

    def permits(self):
        """The permits as they are now."""
        return self._permits

    def allow(self, row):
        """Lets a permission, with those that it brings, and returns the news."""
        return self._do(self._permits.joined(Permits(self._ground, [row])))

    def forbid(self, row):
        """Takes a permission away, with those that bring it, and returns the news."""
        return self._do(self._permits.without(row))

    def undo(self):
        """Takes the last deed back that is not taken back, and returns the news."""
        if len(self._ahead) == 0:
            raise NoDeed()
        self._behind.append(self._permits)
        return self._change(self._ahead.pop())

    def again(self):
        """Does the deed again that was taken back last, and returns the news."""
        if len(self._behind) == 0:
            raise NoDeed()
        self._ahead.append(self._permits)
        return self._change(self._behind.pop())

    def would(self, rows):
        """The news that allowing all these permissions would bring."""
        permits = self._permits.joined(Permits(self._ground, rows))
        return self._news(self._states_within(permits))

    def _check_held(self, name):
        if not is_name(name) or name not in self._watched:
            raise NotHeld(name)

    def _do(self, permits):
        if permits == self._permits:
            return []
        self._ahead.append(self._permits)
        self._behind = []
        return self._change(permits)

    def _change(self, permits):
        self._permits = permits
        states = self._states_within(permits)
        news = self._news(states)
        self._states = states
        return news

    def _news(self, states):
        """The list of the pairs (name, state) of the rules with another state than now."""
        return [(name, states[name]) for name in sorted(states) if states[name] != self._states[name]]

    def _states_within(self, permits):
        return {name: self._state_within(permits, name) for name in self._watched}

    def _state_within(self, permits, name):
        one, other, relation = self._watched[name]
        return always_related(Setting(self._ground, permits), relation, closed([one, other]))
