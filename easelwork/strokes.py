"""Brushes, strokes, and the deeds that paint with them."""

from easelwork.arith import mul
from easelwork.coverage import Coverage
from easelwork.errors import BadPlace, BadValue, NoChange
from easelwork.modes import blend
from easelwork.outlines import sample_alpha
from easelwork.pixels import CLEAR, ink, scale
from easelwork.ranges import are_near

MOST_POINTS = 32
MOST_DABS = 400


def brush(manner, side):
    """The coverage of a brush of this side."""
    if manner not in ("round", "square") or not 1 <= side <= 32:
        raise BadValue("brush")
    if manner == "square":
        return Coverage.of_rect((0, 0, side, side), 255)
    return Coverage([(i, j, sample_alpha(_round_samples(i, j, side))) for j in range(side) for i in range(side)])


def dab_places(points, gap):
    """The places on the road through the points at which a brush is set down."""
    if not 1 <= len(points) <= MOST_POINTS or any([len(point) != 2 for point in points]) or not are_near(points):
        raise BadValue("points")
    if not 1 <= gap <= 64:
        raise BadValue("points")
    road = [tuple(points[0])]
    for start, finish in zip(points, points[1:]):
        road.extend(_steps(start, finish))
    dabs = road[::gap]
    if len(dabs) > MOST_DABS:
        raise BadValue("points")
    return tuple(dabs)


def stroke_cover(points, manner, side, gap):
    """The coverage of all dabs of a stroke."""
    dabs = dab_places(points, gap)
    spots = brush(manner, side).spots
    values = {}
    for x, y in dabs:
        left = x - side // 2
        up = y - side // 2
        for i, j, k in spots:
            place = (left + i, up + j)
            values[place] = max(k, values.get(place, 0))
    return Coverage([(x, y, values[(x, y)]) for x, y in values])


def selected(document, x, y):
    """How strongly the place is selected, from 0 to 255."""
    if document.chosen is None:
        return 255
    return Coverage(document.chosen).at(x, y)


def painted_deed(document, number, cover, color, *, flow=255, mode="over"):
    """The put deed that lays a color over a paint layer, as strongly as the coverage and the selection tell."""
    tree = document.layer(number)
    if tree[1] != "paint":
        raise BadPlace()
    if not 0 <= flow <= 255:
        raise BadValue("flow")
    pixels = {(x, y): pixel for x, y, pixel in tree[3][0]}
    top = ink(color)
    spots = [
        (x, y, blend(mode, scale(top, m), pixels.get((x, y), CLEAR))) for x, y, m in _strengths(document, cover, flow)
    ]
    if not spots:
        raise NoChange()
    return ("put", number, tuple(spots))


def _strengths(document, cover, flow):
    """The places that a deed can hold, each with how strongly it is painted, above 0."""
    flowing = [(x, y, mul(k, flow)) for x, y, k in cover.spots if are_near([(x, y)])]
    if document.chosen is not None:
        chosen = Coverage(document.chosen)
        flowing = [(x, y, mul(k, chosen.at(x, y))) for x, y, k in flowing]
    return [(x, y, k) for x, y, k in flowing if k > 0]


def _round_samples(i, j, side):
    """How many of the 16 samples of a place lie in the round brush."""
    far = 4 * side
    across = [(8 * i + 2 * u + 1 - far) * (8 * i + 2 * u + 1 - far) for u in range(4)]
    down = [(8 * j + 2 * v + 1 - far) * (8 * j + 2 * v + 1 - far) for v in range(4)]
    return len([True for x in across for y in down if x + y <= 16 * side * side])


def _steps(start, finish):
    """The places after each step from one point to the next."""
    dx = finish[0] - start[0]
    dy = finish[1] - start[1]
    n = max(abs(dx), abs(dy))
    return [
        (start[0] + (2 * j * dx + n) // (2 * n), start[1] + (2 * j * dy + n) // (2 * n)) for j in range(1, n + 1)
    ]
