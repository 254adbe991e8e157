"""Tells how long some inputs take; no test, for it hangs on the machine."""

import timeit

from freeworldrules.dropped import shortest
from freeworldrules.grounds import Ground
from freeworldrules.needs import breaking, needs
from freeworldrules.permits import Permits


def inputs():
    x, y = ("use", "x", ()), ("use", "y", ())
    small = Ground({"x": 0, "y": 0, "plus": 2}, ["plus"], ["plus"])
    swap = (small, ("use", "plus", (x, y)), ("use", "plus", (y, x)))
    large = Ground({**{letter: 0 for letter in "abcdefgh"}, "z": 2}, ["z"])
    a, b = ("use", "a", ()), ("use", "b", ())
    bound = (large, ("use", "z", (a, b)), ("bind", "v", b, ("use", "z", (a, ("name", "v")))))
    permits = Permits(large, [("shows", "a", "b"), ("shows", "c", "d"), ("shares", "e", "f")])
    return [("breaking", lambda: breaking(*swap)), ("needs", lambda: needs(*bound)),
            ("shortest", lambda: shortest(large, permits, list("hgfedcba")))]


if __name__ == "__main__":
    for name, call in inputs():
        print(f"{name}: {min(timeit.repeat(call, number=20, repeat=3)) / 20 * 1000:.3f} ms")
