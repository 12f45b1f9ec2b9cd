"""Fills: the places of a block whose pixels are like that of one place."""

from easelwork.coverage import Coverage
from easelwork.errors import BadPlace, BadValue


def flood(block, x, y, tolerance):
    """255 at the place and wherever steps over places that fit lead from it."""
    fits = _fitting(block, x, y, tolerance)
    reached = {(x, y): True}
    waiting = [(x, y)]
    while waiting:
        i, j = waiting.pop()
        for place in ((i - 1, j), (i + 1, j), (i, j - 1), (i, j + 1)):
            if place in fits and place not in reached:
                reached[place] = True
                waiting.append(place)
    return Coverage([(i, j, 255) for i, j in reached])


def alike(block, x, y, tolerance):
    """255 at all places that fit."""
    return Coverage([(i, j, 255) for i, j in _fitting(block, x, y, tolerance)])


def _fitting(block, x, y, tolerance):
    """The places whose pixels differ little enough from that at (x, y), as a dict."""
    if not 0 <= y < len(block) or not 0 <= x < len(block[0]):
        raise BadPlace()
    if not 0 <= tolerance <= 255:
        raise BadValue("tolerance")
    like = block[y][x]
    return {
        (i, j): True for j, row in enumerate(block) for i, pixel in enumerate(row) if _is_near(pixel, like, tolerance)
    }


def _is_near(pixel, like, tolerance):
    return all([abs(p - q) <= tolerance for p, q in zip(pixel, like)])
