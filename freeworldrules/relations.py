"""Relations of the ends of two terms."""

from freeworldrules.worlds import World, closed


def related(relation, one, other):
    """Tells whether two ends have a relation."""
    if one == other:
        return True
    if relation == "no worse":
        return one[0] != "value"
    if relation == "faults":
        return one[0] == "fails" and other[0] == "fails" and one[2] == other[2]
    return False


def is_related(world, relation, ends):
    """Tells whether the two ends of a way, with what was evaluated recently, have a relation in a world."""
    one, other = ends
    # where both left the same behind the same evaluations, the ends alone tell
    if one == other:
        return True
    return related(relation, world.end_of(one), world.end_of(other))


def always_related(setting, relation, lives):
    """Tells whether two terms, with the values of their names, have a relation in all ways."""
    if lives[0] == lives[1]:
        return True
    world = World(setting)
    return not world.live(lives, lambda ends: not is_related(world, relation, ends))


def end_alike(setting, one, other):
    """Tells whether two terms end alike in all ways."""
    return always_related(setting, "same", closed([one, other]))
