"""Point 20: the pixels of ramps."""

import unittest
from random import Random

import slow
from making import BIG, some_colors

from easelwork.pixels import ink, is_pixel
from easelwork.ramps import ramp_pixel

BLACK = (0, 0, 0, 255)
WHITE = (255, 255, 255, 255)


def gray(manner, start, finish, x, y):
    """How far a ramp from black to white has gone."""
    return ramp_pixel(manner, start, finish, BLACK, WHITE, x, y)[0]


class RampTest(unittest.TestCase):
    def test_a_line(self):
        self.assertEqual([gray("line", (0, 0), (4, 0), x, 0) for x in (-1, 0, 1, 2, 3, 4, 5)],
                         [0, 0, 63, 127, 191, 255, 255])
        self.assertEqual([gray("line", (4, 0), (0, 0), x, 9) for x in (5, 4, 3, 0, -1)], [0, 0, 63, 255, 255])
        self.assertEqual([gray("line", (1, 1), (3, 3), x, y) for x, y in ((1, 1), (1, 3), (3, 1), (2, 2), (3, 3))],
                         [0, 127, 127, 127, 255])

    def test_rings(self):
        self.assertEqual([gray("ring", (0, 0), (0, 4), x, y) for x, y in ((0, 0), (1, 0), (-1, 0), (1, 1), (4, 0))],
                         [0, 63, 63, 90, 255])
        self.assertEqual(gray("ring", (0, 0), (3, 4), 5, 0), 255)
        self.assertEqual(gray("ring", (0, 0), (3, 4), 6, 0), 255)
        self.assertEqual(gray("ring", (0, 0), (3, 4), 0, -4), 204)

    def test_start_and_finish_equal(self):
        for manner in ("line", "ring"):
            for place in ((0, 0), (5, 5), (-9, 3)):
                self.assertEqual(ramp_pixel(manner, (5, 5), (5, 5), BLACK, (9, 8, 7, 100), *place),
                                 ink((9, 8, 7, 100)))

    def test_far_places(self):
        self.assertEqual(gray("line", (0, 0), (512, 0), BIG, BIG), 255)
        self.assertEqual(gray("line", (0, 0), (512, 0), -BIG, BIG), 0)
        self.assertEqual(gray("ring", (-512, 0), (512, 0), BIG, -BIG), 255)
        self.assertEqual(gray("line", (0, 0), (4 * BIG, 0), BIG, 7), 63)
        self.assertEqual(gray("ring", (0, 0), (4 * BIG, 0), BIG, 0), 63)

    def test_the_pixels_of_the_document(self):
        chance = Random(1)
        colors = some_colors(40, 2)
        for _ in range(500):
            start, finish = [(chance.randint(-9, 9), chance.randint(-9, 9)) for _ in range(2)]
            first, second = chance.choice(colors), chance.choice(colors)
            x, y = chance.randint(-15, 15), chance.randint(-15, 15)
            for manner in ("line", "ring"):
                got = ramp_pixel(manner, start, finish, first, second, x, y)
                self.assertEqual(got, slow.ramp_pixel(manner, start, finish, first, second, x, y))
                self.assertTrue(is_pixel(got))


if __name__ == "__main__":
    unittest.main()
