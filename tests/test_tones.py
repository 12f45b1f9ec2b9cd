"""Point 13: curves, and pixels adjusted by them."""

import unittest
from fractions import Fraction
from math import floor
from random import Random

from making import some_pixels

from easelwork.arith import mul, straight
from easelwork.errors import BadValue
from easelwork.pixels import CLEAR, is_pixel
from easelwork.tones import Curve, adjusted


def some_points(chance, rising=False):
    """Points of a curve; neighbouring x are often next to each other."""
    xs = sorted({0, 255} | {chance.choice((1, 2, 3, 127, 128, 254, chance.randint(0, 255)))
                            for _ in range(chance.choice((0, 1, 5, 14)))})
    ys = [chance.choice((0, 255, chance.randint(0, 255))) for _ in xs]
    return tuple(zip(xs, sorted(ys) if rising else ys))


def on_the_line(points, v):
    """The height of the straight lines at v, to the nearest integer; a tie goes up."""
    for (x0, y0), (x1, y1) in zip(points, points[1:]):
        if x0 <= v <= x1:
            return floor(y0 + Fraction((y1 - y0) * (v - x0), x1 - x0) + Fraction(1, 2))
    raise AssertionError(v)


class CurveCase(unittest.TestCase):
    def check_bad(self, field, call, *arguments):
        with self.assertRaises(BadValue, msg=arguments) as caught:
            call(*arguments)
        self.assertEqual(caught.exception.field, field)


class CurveTest(CurveCase):
    def test_the_curve_is_the_nearest_integer_to_the_line(self):
        chance = Random(1)
        for _ in range(60):
            points = some_points(chance)
            curve = Curve(points)
            self.assertEqual([curve(v) for v in range(256)], [on_the_line(points, v) for v in range(256)])

    def test_ties_go_up(self):
        self.assertEqual([Curve(((0, 0), (2, 1), (255, 1)))(v) for v in (0, 1, 2)], [0, 1, 1])
        self.assertEqual([Curve(((0, 1), (2, 0), (255, 0)))(v) for v in (0, 1, 2)], [1, 1, 0])

    def test_at_a_point_it_is_the_height_of_the_point(self):
        chance = Random(2)
        for _ in range(100):
            points = some_points(chance)
            curve = Curve(points)
            self.assertEqual(tuple((x, curve(x)) for x, _ in points), points)

    def test_two_and_sixteen_points(self):
        self.assertEqual(Curve(((0, 9), (255, 9)))(100), 9)
        sixteen = tuple((17 * k, 255 - k) for k in range(16))
        self.assertEqual(Curve(sixteen).points, sixteen)
        self.assertEqual(Curve(tuple((x, x) for x in list(range(15)) + [255]))(7), 7)

    def test_points_is_the_tuple_that_was_passed(self):
        points = ((0, 3), (7, 200), (255, 0))
        self.assertEqual(Curve(points).points, points)
        self.assertIs(type(Curve(points).points), tuple)

    def test_wrong_points(self):
        ends = ((0, 0), (255, 255))
        for points in (
                (), ((0, 0),), ((255, 255),), tuple((x, 0) for x in range(16)) + ((255, 0),),
                tuple((15 * k, 0) for k in range(18)), ((1, 0), (255, 0)), ((0, 0), (254, 0)), ((0, 0), (256, 0)),
                ((-1, 0), (255, 0)), ((0, 0), (9, 0), (9, 5), (255, 0)), ((0, 0), (10, 0), (9, 5), (255, 0)),
                ((0, 0), (300, 5), (255, 0)), ((0, 0), (255, 0), (255, 1)), ((0, 0), (0, 1), (255, 0)),
                ((0, -1), (255, 0)), ((0, 0), (255, 256)), ((0, 0), (5, 999), (255, 0)), ((0, 0), (5, -1), (255, 0)),
                ((0, 0, 0), (255, 255)), ((0, 0), (255,)), ((0, 0), (), (255, 255)), ((0, 0), (5, 5, 5), (255, 255)),
                ((255, 0), (0, 0)), ends + ends):
            self.check_bad("points", Curve, points)

    def test_equality(self):
        self.assertIs(Curve(((0, 0), (255, 255))) == Curve.identity(), True)
        self.assertIs(Curve(((0, 0), (255, 255))) != Curve.identity(), False)
        self.assertIs(Curve(((0, 0), (100, 100), (255, 255))) == Curve.identity(), False)
        for other in (((0, 0), (255, 255)), None, 0, "curve"):
            self.assertIs(Curve.identity() == other, False)


class ReadyCurveTest(CurveCase):
    def test_identity_and_inverted(self):
        self.assertEqual(Curve.identity().points, ((0, 0), (255, 255)))
        self.assertEqual(Curve.inverted().points, ((0, 255), (255, 0)))
        for v in range(256):
            self.assertEqual((Curve.identity()(v), Curve.inverted()(v)), (v, 255 - v))

    def test_levels(self):
        self.assertEqual(Curve.levels(10, 200, 5, 250).points, ((0, 5), (10, 5), (200, 250), (255, 250)))
        self.assertEqual(Curve.levels(1, 254, 255, 0).points, ((0, 255), (1, 255), (254, 0), (255, 0)))
        self.assertEqual(Curve.levels(7, 8, 0, 255).points, ((0, 0), (7, 0), (8, 255), (255, 255)))

    def test_wrong_levels(self):
        for arguments in ((0, 9, 0, 0), (-1, 9, 0, 0), (9, 9, 0, 0), (10, 9, 0, 0), (9, 255, 0, 0), (9, 256, 0, 0),
                          (1, 2, -1, 0), (1, 2, 256, 0), (1, 2, 0, -1), (1, 2, 0, 256), (254, 255, 0, 255)):
            self.check_bad("levels", Curve.levels, *arguments)

    def test_threshold(self):
        self.assertEqual(Curve.threshold(1).points, ((0, 0), (1, 255), (255, 255)))
        self.assertEqual(Curve.threshold(2).points, ((0, 0), (1, 0), (2, 255), (255, 255)))
        self.assertEqual(Curve.threshold(128).points, ((0, 0), (127, 0), (128, 255), (255, 255)))
        self.assertEqual(Curve.threshold(254).points, ((0, 0), (253, 0), (254, 255), (255, 255)))
        self.assertEqual(Curve.threshold(255).points, ((0, 0), (254, 0), (255, 255)))
        for n in range(1, 256):
            curve = Curve.threshold(n)
            self.assertEqual([curve(v) for v in range(256)], [0] * n + [255] * (256 - n))

    def test_wrong_thresholds(self):
        for n in (0, -1, 256, 10 ** 30):
            self.check_bad("threshold", Curve.threshold, n)


class AdjustedTest(CurveCase):
    def test_each_part_is_taken_through_its_curve(self):
        chance = Random(3)
        for _ in range(20):
            curves = [Curve(some_points(chance)) for _ in range(3)]
            for pixel in some_pixels(60, chance.randint(0, 999)):
                a = pixel[3]
                wanted = tuple(mul(curve(straight(c, a)), a) for curve, c in zip(curves, pixel))
                got = adjusted(pixel, *curves)
                self.assertEqual(got, wanted + (a,))
                self.assertTrue(is_pixel(got))
            self.assertEqual(adjusted(CLEAR, *curves), CLEAR)

    def test_by_hand(self):
        self.assertEqual(adjusted((50, 0, 100, 100), Curve.inverted(), Curve.identity(), Curve.threshold(255)),
                         (50, 0, 100, 100))
        self.assertEqual(adjusted((10, 20, 30, 255), Curve.threshold(11), Curve.threshold(20), Curve.inverted()),
                         (0, 255, 225, 255))

    def test_identity_and_inverted_curves(self):
        for pixel in some_pixels(600, 4):
            r, g, b, a = pixel
            self.assertEqual(adjusted(pixel, *[Curve.identity()] * 3), pixel)
            self.assertEqual(adjusted(pixel, *[Curve.inverted()] * 3), (a - r, a - g, a - b, a))

    def test_a_curve_whose_points_never_fall_never_falls(self):
        chance = Random(5)
        for _ in range(60):
            curve = Curve(some_points(chance, rising=True))
            values = [curve(v) for v in range(256)]
            self.assertEqual(values, sorted(values))

    def test_opaque_pixels_go_through_one_curve_after_the_other(self):
        chance = Random(6)
        for _ in range(30):
            first = [Curve(some_points(chance)) for _ in range(3)]
            second = [Curve(some_points(chance)) for _ in range(3)]
            pixel = tuple(chance.randint(0, 255) for _ in range(3)) + (255,)
            wanted = tuple(g(f(c)) for f, g, c in zip(first, second, pixel))
            self.assertEqual(adjusted(adjusted(pixel, *first), *second), wanted + (255,))


if __name__ == "__main__":
    unittest.main()
