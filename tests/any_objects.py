"""What the document calls any object, for tests of wrong inputs."""

from freeworldrules.errors import NoRow, RuleError
from freeworldrules.grounds import Ground
from freeworldrules.permits import Permits


def any_objects():
    """A new list of objects of all kinds; none is a term, a permission or a fact."""
    ground = Ground({"x": 0})
    return [
        -1, 0, 1, 2, 3, 10 ** 20, True, False, None,
        "", "x", "y", "true", "value", "use", "X", "x y", "fails", "abcdefghi", "\n",
        [], (), [None], [True], [0, "x"], (0, 0, 0, 0), [[]], ((),), ["x"], ("x", "y"), [[[]], {}],
        ("value",), ("value", 1), ("value", True), ["fails"], ("fails", None), ("shows", [], {}),
        {}, {"x": 0}, {0: 1}, {None: []},
        ground, Permits(ground), Permits.full(ground), [ground], (Permits(ground),),
        RuleError(), NoRow([ground]),
    ]


# kinds of strings that are no names: none or too many signs, others than a to z
NO_NAMES = ["", "abcdefghi", "A", "aB", "x1", "x_", "_", "x y", " x", "x\n", "\u00e9", "\u00df", "\u0430", "`", "{"]

NAMES = ["a", "z", "az", "abcdefgh", "value", "use", "if", "true", "false", "zzzzzzzz"]
