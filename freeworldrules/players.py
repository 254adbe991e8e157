"""Players: terms that stand for letters."""

from freeworldrules.checks import check_ground
from freeworldrules.errors import BadPlayer, BadTerm, Clash
from freeworldrules.kinds import are_names, is_list
from freeworldrules.names import bound_in, letters_in
from freeworldrules.permits import Permits
from freeworldrules.settings import Setting
from freeworldrules.terms import checked, checked_within, terms_in, with_terms
from freeworldrules.worlds import World, with_own_values


def played(ground, term, players):
    """The term with the bodies of players, within binds of their names, for the uses of their letters."""
    whole = checked(ground, term)
    known = _checked_players(ground, players)
    _check_clash(whole, known)
    return _played(whole, known)


def permits_of(ground, permits, players):
    """The permits that all programs within permits keep if the players stand for their letters."""
    check_ground(ground, permits)
    known = _checked_players(ground, players)
    within = {letter: letters_in(known[letter][1]) if letter in known else [letter] for letter in ground}
    rows = {row: True for row in permits}
    return Permits(ground, _ends_of(permits, known)
                   + [("writes", letter) for letter in ground if _do_write(rows, within[letter])]
                   + [("shows", one, other) for one in ground for other in ground
                      if _do_show(rows, within[one], within[other])]
                   + [("shares", one, other) for one in ground for other in ground
                      if one != other and _do_share(rows, within[one], within[other])])


def _checked_players(ground, players):
    """The dict from the letters of players to their names and bodies."""
    if not isinstance(players, dict):
        raise BadPlayer(None)
    known = {}
    for key, player in players.items():
        if key not in ground or key in ground.fixed():
            raise BadPlayer(key)
        body = _body_or_none(ground, player, ground.parts_of(key))
        if body is None:
            raise BadPlayer(key)
        known[key] = (tuple(player[0]), body)
    return known


def _body_or_none(ground, player, many):
    """The body of a player of a letter with so many parts, None for what is no such player."""
    if not is_list(player) or len(player) != 2 or not are_names(player[0]) or len(player[0]) != many:
        return None
    names = tuple(player[0])
    try:
        return checked_within(ground, player[1], names, ())
    except BadTerm:
        return None


def _check_clash(term, known):
    for letter, player in known.items():
        taken = bound_in(term)
        for another, other in known.items():
            if another != letter:
                taken.extend([*other[0], *bound_in(other[1])])
        for name in player[0]:
            if name in taken:
                raise Clash(name)


def _played(term, known):
    terms = [_played(part, known) for part in terms_in(term)]
    if term[0] != "use" or term[1] not in known:
        return with_terms(term, terms)
    names, whole = known[term[1]]
    for name, part in reversed(list(zip(names, terms))):
        whole = ("bind", name, part, whole)
    return whole


def _ends_of(permits, known):
    """The permissions to fail and to stay, if the players stand for their letters."""
    rows = [row for row in permits.rows() if row[0] in ("fails", "stays") and row[1] not in known]
    setting = Setting(permits.ground, permits)
    for letter, player in known.items():
        kinds = []
        World(setting).live([with_own_values(*player)], lambda ends: kinds.append(ends[0][0]))
        rows.extend([(word, letter) for word in ("fails", "stays") if word in kinds])
    return rows


def _do_write(rows, letters):
    return any([("writes", letter) in rows for letter in letters])


def _do_show(rows, letters, others):
    return any([("shows", one, other) in rows for one in letters for other in others])


def _do_share(rows, letters, others):
    return any([("shares", one, other) in rows or one == other and ("writes", one) in rows
                for one in letters for other in others])
