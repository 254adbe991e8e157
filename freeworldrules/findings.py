"""Findings: what can be told of a term by going through all its ways."""

from freeworldrules.checks import check_ground
from freeworldrules.names import all_parts, new_name
from freeworldrules.relations import end_alike
from freeworldrules.settings import Setting
from freeworldrules.steps import noting_paths
from freeworldrules.terms import checked, paths_in, with_part
from freeworldrules.worlds import World, closed, times


def known(ground, permits, term):
    """The end that is the same in all ways, or None."""
    ends = _ends(ground, permits, term)
    return ends[0] if all([end == ends[0] for end in ends]) else None


def failures(ground, permits, term):
    """The list of the ways in which a term can fail: ("fail", name) by names, then ("failed", letter) in order."""
    found = [end[1] for end in _ends(ground, permits, term) if end[0] == "fails"]
    names = {failure[1]: True for failure in found if failure[0] == "fail"}
    letters = {failure[1]: True for failure in found if failure[0] == "failed"}
    return [("fail", name) for name in sorted(names)] + [("failed", letter) for letter in ground if letter in letters]


def may_stay(ground, permits, term):
    """Tells whether a term ends without end in some way."""
    return any([end[0] == "stays" for end in _ends(ground, permits, term)])


def unreached(ground, permits, term):
    """The list of the paths of parts to which no way comes."""
    check_ground(ground, permits)
    whole = checked(ground, term)
    world = World(Setting(ground, permits))
    reached = {}
    world.live(closed([noting_paths(whole, ())]), lambda _: reached.update({path: True for path in world.reached}))
    return [path for path in paths_in(whole) if path not in reached]


def needless(ground, permits, term):
    """The list of the paths of parts that can be put by any value."""
    check_ground(ground, permits)
    whole = checked(ground, term)
    setting = Setting(ground, permits)
    names = _names_to_try(ground, whole)
    return [path for path in paths_in(whole) if _is_needless(setting, whole, path, names)]


def counts(ground, permits, term):
    """The dict from letters to the pairs of how often each is evaluated at least and at most."""
    check_ground(ground, permits)
    world = World(Setting(ground, permits))
    ways = []
    world.live(closed([checked(ground, term)]), lambda _: ways.append(list(world.met)))
    found = {}
    for letter in ground:
        many = [times(letter, met) for met in ways]
        found[letter] = (min(many), max(many))
    return found


def never_more(ground, permits, one, other):
    """Tells whether in each way of both no letter is evaluated more often in the one than in the other."""
    check_ground(ground, permits)
    terms = [checked(ground, one), checked(ground, other)]
    world = World(Setting(ground, permits))
    return not world.live(closed(terms[:1]), lambda _: _is_ever_more(ground, world, terms[1]))


def _is_ever_more(ground, world, other):
    """Tells whether on this way of a term, in some way of another one, a letter is evaluated more often than there."""
    met = list(world.met)
    return world.live(closed([other]), lambda _: any(
        [times(letter, met) > times(letter, world.met[len(met):]) for letter in ground]))


def _ends(ground, permits, term):
    check_ground(ground, permits)
    world = World(Setting(ground, permits))
    found = []
    world.live(closed([checked(ground, term)]), lambda ends: found.append(world.end_of(ends[0])))
    return found


def _names_to_try(ground, term):
    """Names of values that stand for all of them: no term or fact tells those left out from the last one."""
    names = {"true": True, "false": True}
    for part in all_parts(term):
        if part[0] == "value":
            names[part[1]] = True
    for _, values, end in ground.facts():
        for name in [*values, end[1]]:
            names[name] = True
    return list(names) + [new_name(names)]


def _is_needless(setting, term, path, names):
    return all([end_alike(setting, term, with_part(term, path, ("value", name))) for name in names])
