"""The kinds of objects that the document tells apart."""

MOST_SIGNS = 8


def is_list(thing):
    """A tuple stands for a list everywhere; a string never does."""
    return isinstance(thing, (list, tuple))


def is_number(thing):
    """True and False are no integers here, although Python counts them in."""
    return isinstance(thing, int) and not isinstance(thing, bool)


def is_name(thing):
    """Tells whether a thing is a string of one to eight letters a to z."""
    return (isinstance(thing, str) and 1 <= len(thing) <= MOST_SIGNS
            and thing.isascii() and thing.isalpha() and thing.islower())


def are_names(thing):
    """Tells whether a thing is a list of different names."""
    if not is_list(thing) or not all([is_name(name) for name in thing]):
        return False
    return all([name not in thing[:place] for place, name in enumerate(thing)])
