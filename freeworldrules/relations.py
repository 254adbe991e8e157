"""Relations of the ends of two terms."""


def related(relation, one, other):
    """Tells whether two ends have a relation."""
    if one == other:
        return True
    if relation == "no worse":
        return one[0] != "value"
    if relation == "faults":
        return one[0] == "fails" and other[0] == "fails" and one[2] == other[2]
    return False
