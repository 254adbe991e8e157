"""Libraries of functions: letters with bodies, which can be put for them."""

from freeworldrules.checks import check_ground
from freeworldrules.errors import BadFunction, BadTerm, NoFunction, UnlikeGrounds, UnlikeLibraries
from freeworldrules.grounds import Ground
from freeworldrules.inlining import inlined_body, inlined_term
from freeworldrules.kinds import are_names, is_list, is_name
from freeworldrules.names import letters_in
from freeworldrules.permits import Permits
from freeworldrules.players import permits_of
from freeworldrules.relations import always_related
from freeworldrules.settings import Setting
from freeworldrules.terms import checked, checked_within
from freeworldrules.worlds import with_own_values

MOST_NAMES = 2


class Library:
    """Functions over a ground, each of which can use the letters and the functions ahead of it."""

    def __init__(self, ground, functions=()):
        self.ground = ground
        self._functions = _checked_functions(ground, functions)

    def functions(self):
        """The list of the triples (name, names, body)."""
        return list(self._functions)

    def wide(self):
        """The ground with the functions as further letters that are not fixed."""
        return _wide(self.ground, self._functions)

    def inlined(self, term):
        """The term over the ground with the bodies of functions, within binds of their names, for their uses."""
        return inlined_term(self._functions, checked(self.wide(), term))

    def permits(self, permits):
        """The permits over the wide ground that keep to what the inlined functions do within permits."""
        check_ground(self.ground, permits)
        wide = self.wide()
        players = {function[0]: (function[1], inlined_body(self._functions, function)) for function in self._functions}
        return permits_of(wide, Permits(wide, permits.rows()), players)

    def changed(self, name, names, body):
        """The library with another function of this name in its place."""
        _check_function(self, name)
        return Library(self.ground, [(name, names, body) if function[0] == name else function
                                     for function in self._functions])

    def __eq__(self, other):
        return isinstance(other, Library) and self.ground == other.ground and self._functions == other._functions


def callers(library, name):
    """The list of the names of the functions that use a function, or a caller of it, in order."""
    _check_function(library, name)
    found = [name]
    for caller, _, body in library.functions():
        # a function uses those ahead of it alone
        if any([letter in found for letter in letters_in(body)]):
            found.append(caller)
    return found[1:]


def unlike(one, other, permits):
    """The list of the names of the functions that do not end alike in two libraries."""
    if one.ground != other.ground or one.ground != permits.ground:
        raise UnlikeGrounds()
    if _heads(one) != _heads(other):
        raise UnlikeLibraries()
    setting = Setting(permits.ground, permits)
    ones, others = one.functions(), other.functions()
    return [function[0] for function, like in zip(ones, others)
            if not always_related(setting, "same", [_as_lived(ones, function), _as_lived(others, like)])]


def _checked_functions(ground, functions):
    if not is_list(functions):
        raise BadFunction(0)
    found = []
    for index, thing in enumerate(functions):
        function = _function_or_none(_wide(ground, found), thing)
        if function is None:
            raise BadFunction(index)
        found.append(function)
    return found


def _function_or_none(wide, thing):
    """A thing as a function behind those of a wide ground, None for what is none."""
    if not is_list(thing) or len(thing) != 3 or not is_name(thing[0]) or thing[0] in wide:
        return None
    name, names, body = thing
    if not are_names(names) or len(names) > MOST_NAMES:
        return None
    try:
        return (name, tuple(names), checked_within(wide, body, tuple(names), ()))
    except BadTerm:
        return None


def _wide(ground, functions):
    letters = ground.letters()
    for name, names, _ in functions:
        letters[name] = len(names)
    return Ground(letters, ground.fixed(), ground.commuting(), ground.facts())


def _check_function(library, name):
    if name not in [function[0] for function in library.functions()]:
        raise NoFunction(name)


def _heads(library):
    return [(name, len(names)) for name, names, _ in library.functions()]


def _as_lived(functions, function):
    """The inlined body of a function with values of letters of their own for its names."""
    return with_own_values(function[1], inlined_body(functions, function))
