"""Matrices: they take points of the plane to points, with fractions kept exact."""

from math import gcd

from easelwork.errors import BadValue, Singular


class Matrix:
    """Seven integers (a, b, c, d, e, f, n) in lowest terms."""

    def __init__(self, a, b, c, d, e, f, n):
        if n < 1:
            raise BadValue("matrix")
        if a * e - b * d == 0:
            raise Singular()
        by = gcd(a, b, c, d, e, f, n)
        self._seven = (a // by, b // by, c // by, d // by, e // by, f // by, n // by)

    def __eq__(self, other):
        return isinstance(other, Matrix) and self._seven == other._seven

    def __mul__(self, other):
        a, b, c, d, e, f, n = self._seven
        ka, kb, kc, kd, ke, kf, kn = other._seven
        return Matrix(
            a * ka + b * kd, a * kb + b * ke, a * kc + b * kf + c * kn,
            d * ka + e * kd, d * kb + e * ke, d * kc + e * kf + f * kn,
            n * kn,
        )

    def parts(self):
        """The seven integers in lowest terms."""
        return self._seven

    def point(self, x, y):
        """The point that (x, y) is taken to: two numbers that are still to be divided by the third."""
        a, b, c, d, e, f, n = self._seven
        return (a * x + b * y + c, d * x + e * y + f, n)

    def inverse(self):
        """The matrix that leads back."""
        a, b, c, d, e, f, n = self._seven
        area = a * e - b * d
        s = 1 if area > 0 else -1
        return Matrix(
            s * e * n, -s * b * n, s * (b * f - c * e),
            -s * d * n, s * a * n, s * (c * d - a * f),
            abs(area),
        )
