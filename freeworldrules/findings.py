"""Findings: what can be told of a term by going through all its ways."""

from freeworldrules.checks import check_ground
from freeworldrules.names import all_parts, new_name
from freeworldrules.rules import holds
from freeworldrules.terms import checked, parts, put_at
from freeworldrules.worlds import all_worlds


def known(ground, permits, term):
    """The end that is the same in all ways, or None."""
    ends = _ends(ground, permits, term)
    return ends[0] if all([end == ends[0] for end in ends]) else None


def failures(ground, permits, term):
    """The list of the ways in which a term can fail: ("fail", name) by names, then ("failed", letter) in order."""
    found = [end[1] for end in _ends(ground, permits, term) if end[0] == "fails"]
    names = {failure[1]: True for failure in found if failure[0] == "fail"}
    letters = {failure[1]: True for failure in found if failure[0] == "failed"}
    return [("fail", name) for name in sorted(names)] + [("failed", letter) for letter in ground if letter in letters]


def may_stay(ground, permits, term):
    """Tells whether a term ends without end in some way."""
    return any([end[0] == "stays" for end in _ends(ground, permits, term)])


def unreached(ground, permits, term):
    """The list of the paths of parts to which no way comes."""
    reached = {}
    for world in _worlds(ground, permits, term):
        for path in world.runs[0].reached:
            reached[path] = True
    return [path for path in parts(ground, term) if path not in reached]


def needless(ground, permits, term):
    """The list of the paths of parts that can be put by any value."""
    check_ground(ground, permits)
    whole = checked(ground, term)
    names = _names_to_try(ground, whole)
    return [path for path in parts(ground, whole) if _is_needless(ground, permits, whole, path, names)]


def counts(ground, permits, term):
    """The dict from letters to the pairs of how often each is evaluated at least and at most."""
    worlds = _worlds(ground, permits, term)
    found = {}
    for letter in ground:
        many = [world.runs[0].times(letter) for world in worlds]
        found[letter] = (min(many), max(many))
    return found


def never_more(ground, permits, one, other):
    """Tells whether in each way of both no letter is evaluated more often in the one than in the other."""
    check_ground(ground, permits)
    worlds = all_worlds(permits, [checked(ground, one), checked(ground, other)], {})
    return all([world.runs[0].times(letter) <= world.runs[1].times(letter)
                for world in worlds for letter in ground])


def _worlds(ground, permits, term):
    check_ground(ground, permits)
    return all_worlds(permits, [checked(ground, term)], {})


def _ends(ground, permits, term):
    return [world.ends[0] for world in _worlds(ground, permits, term)]


def _names_to_try(ground, term):
    """Names of values that stand for all of them: no term or fact tells those left out from the last one."""
    names = {"true": True, "false": True}
    for part in all_parts(term):
        if part[0] == "value":
            names[part[1]] = True
    for _, values, end in ground.facts():
        for name in [*values, end[1]]:
            names[name] = True
    return list(names) + [new_name(names)]


def _is_needless(ground, permits, term, path, names):
    return all([holds(ground, permits, term, put_at(ground, term, path, ("value", name))) for name in names])
