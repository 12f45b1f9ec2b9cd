"""Ramps: colors that go from one to another along a line or in rings."""

from math import isqrt

from easelwork.arith import hold
from easelwork.pixels import ink, mixed


def ramp_pixel(manner, start, finish, first, second, x, y):
    """The pixel of a ramp at (x, y)."""
    return mixed(ink(first), ink(second), _share(manner, start, finish, x, y))


def _share(manner, start, finish, x, y):
    """How far the color has gone at (x, y), from 0 to 255."""
    if start == finish:
        return 255
    ux = finish[0] - start[0]
    uy = finish[1] - start[1]
    dx = x - start[0]
    dy = y - start[1]
    whole = ux * ux + uy * uy
    if manner == "line":
        return hold((255 * (dx * ux + dy * uy)) // whole, 0, 255)
    return min(255, isqrt((65025 * (dx * dx + dy * dy)) // whole))
