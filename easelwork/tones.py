"""Curves from 0 to 255, and pixels that are adjusted by them."""

from easelwork.arith import mul, straight
from easelwork.errors import BadValue


class Curve:
    """A curve through points; between two neighbours it is the straight line, rounded."""

    def __init__(self, points):
        if not are_points(points):
            raise BadValue("points")
        self.points = tuple(points)
        self._heights = _heights(self.points)

    def __eq__(self, other):
        return isinstance(other, Curve) and self.points == other.points

    def __call__(self, v):
        return self._heights[v]

    @staticmethod
    def identity():
        """The curve that gives every value itself."""
        return Curve(((0, 0), (255, 255)))

    @staticmethod
    def inverted():
        """The curve that gives 255 - v."""
        return Curve(((0, 255), (255, 0)))

    @staticmethod
    def levels(black, white, low, high):
        """The curve that rises from low at black to high at white."""
        if not 0 < black < white < 255 or not 0 <= low <= 255 or not 0 <= high <= 255:
            raise BadValue("levels")
        return Curve(((0, low), (black, low), (white, high), (255, high)))

    @staticmethod
    def threshold(n):
        """The curve that gives 0 below n and 255 from n on."""
        if not 1 <= n <= 255:
            raise BadValue("threshold")
        points = [(n - 1, 0), (n, 255)]
        # The ends of the curve may be these two points themselves.
        if n > 1:
            points.insert(0, (0, 0))
        if n < 255:
            points.append((255, 255))
        return Curve(tuple(points))


def adjusted(pixel, red, green, blue):
    """The pixel with one curve applied to each straight color part."""
    r, g, b, a = pixel
    return (mul(red(straight(r, a)), a), mul(green(straight(g, a)), a), mul(blue(straight(b, a)), a), a)


def are_points(points):
    """True if a curve can be made of the points."""
    if not 2 <= len(points) <= 16:
        return False
    if any([len(point) != 2 for point in points]):
        return False
    if points[0][0] != 0 or points[-1][0] != 255:
        return False
    if any([second[0] <= first[0] for first, second in zip(points, points[1:])]):
        return False
    return all([0 <= y <= 255 for _, y in points])


def _heights(points):
    """The values of the curve, from the one at 0 to the one at 255."""
    out = [points[0][1]]
    for (x0, y0), (x1, y1) in zip(points, points[1:]):
        wide = x1 - x0
        out.extend([y0 + (2 * (y1 - y0) * (v - x0) + wide) // (2 * wide) for v in range(x0 + 1, x1 + 1)])
    return tuple(out)
