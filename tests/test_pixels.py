"""Points 5 and 8: pixels."""

import unittest
from fractions import Fraction
from math import floor

from making import EDGE_PARTS, some_colors, some_pixels

from easelwork.pixels import CLEAR, capped, ink, is_pixel, mixed, scale


def nearest(fraction):
    return floor(fraction + Fraction(1, 2))


class IsPixelTest(unittest.TestCase):
    def test_pixels(self):
        for thing in ((0, 0, 0, 0), (255, 255, 255, 255), (0, 1, 2, 2), (2, 2, 2, 2), (0, 0, 0, 255)):
            self.assertIs(is_pixel(thing), True)

    def test_tuples_that_break_the_range(self):
        for thing in ((1, 0, 0, 0), (0, 3, 0, 2), (0, 0, 3, 2), (-1, 0, 0, 5), (0, -1, 0, 5), (0, 0, -1, 5),
                      (0, 0, 0, 256), (256, 256, 256, 256), (0, 0, 0, -1), (-1, -1, -1, -1)):
            self.assertIs(is_pixel(thing), False, thing)

    def test_tuples_of_another_count(self):
        for thing in ((), (0,), (0, 0, 0), (0, 0, 0, 0, 0)):
            self.assertIs(is_pixel(thing), False)

    def test_parts_of_another_kind(self):
        for part in (True, False, None, "0", 0.0, b"0", (0,), [0]):
            for at in range(4):
                thing = (0,) * at + (part,) + (0,) * (2 - at) + (1,)
                thing = thing[:4] if at < 3 else (0, 0, 0, part)
                self.assertIs(is_pixel(thing), False, thing)
        self.assertIs(is_pixel((True, 0, 0, 1)), False)

    def test_things_of_another_kind(self):
        for thing in (None, 0, True, "0000", b"0000", [0, 0, 0, 0], {0: 0}, {0, 1}, 1.5, object(), is_pixel):
            self.assertIs(is_pixel(thing), False)

    def test_the_clear_pixel(self):
        self.assertEqual(CLEAR, (0, 0, 0, 0))
        self.assertIsInstance(CLEAR, tuple)


class PixelTest(unittest.TestCase):
    def test_scale(self):
        self.assertEqual(scale((100, 50, 0, 200), 128), (50, 25, 0, 100))
        self.assertEqual(scale((1, 2, 3, 4), 255), (1, 2, 3, 4))
        self.assertEqual(scale((1, 2, 3, 4), 0), CLEAR)
        for pixel in some_pixels(150, 1):
            for k in EDGE_PARTS:
                got = scale(pixel, k)
                self.assertTrue(is_pixel(got))
                self.assertEqual(got, tuple(nearest(Fraction(p * k, 255)) for p in pixel))

    def test_ink(self):
        self.assertEqual(ink((255, 128, 0, 0)), CLEAR)
        self.assertEqual(ink((9, 128, 77, 255)), (9, 128, 77, 255))
        for color in some_colors(300, 2):
            got = ink(color)
            self.assertTrue(is_pixel(got))
            self.assertEqual(got[:3], tuple(nearest(Fraction(c * color[3], 255)) for c in color[:3]))
            self.assertEqual(got[3], color[3])

    def test_mixed(self):
        pixels = some_pixels(60, 3)
        for d in pixels:
            for f in pixels[::3]:
                for k in EDGE_PARTS[::2]:
                    got = mixed(d, f, k)
                    self.assertTrue(is_pixel(got))
                    self.assertEqual(
                        got, tuple(nearest(Fraction(p * (255 - k) + q * k, 255)) for p, q in zip(d, f)))
                self.assertEqual((mixed(d, f, 0), mixed(d, f, 255)), (d, f))

    def test_capped(self):
        self.assertEqual(capped((10, 20, 30, 40), 20), (10, 20, 20, 20))
        self.assertEqual(capped((10, 20, 30, 40), 255), (10, 20, 30, 255))
        self.assertEqual(capped((30, 20, 10, 999), 15), (15, 15, 10, 15))
        self.assertEqual(capped((-5, 300, 0, -1), 7), (-5, 7, 0, 7))

    def test_answers_are_tuples(self):
        for got in (scale(CLEAR, 1), ink((1, 2, 3, 4)), mixed(CLEAR, CLEAR, 9), capped(CLEAR, 0)):
            self.assertIs(type(got), tuple)


if __name__ == "__main__":
    unittest.main()
