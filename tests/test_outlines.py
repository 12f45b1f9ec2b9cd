"""Point 18: outlines, polygons, windings and samples."""

import unittest
from random import Random

import growing
import slow
from making import BIG

from easelwork.outlines import bounds_of, chords, covered, sample_alpha, winding

SQUARE = ((0, 0), (1024, 0), (1024, 1024), (0, 1024))


def some_polygon(chance, low=-3000, high=5000):
    return tuple((chance.randint(low, high), chance.randint(low, high)) for _ in range(chance.randint(0, 7)))


class ChordsTest(unittest.TestCase):
    def test_lines(self):
        self.assertEqual(chords(((1, 2), (-3, 4))), ((64, 128), (-192, 256)))

    def test_a_bend_gives_eight_points(self):
        got = chords(((0, 0, 8, 0), (8, 8)))
        self.assertEqual(len(got), 9)
        self.assertEqual(got[:3], ((0, 0), (14 * 8 + 8, 8), (24 * 8 + 32, 32)))
        self.assertEqual(got[4], (4 * 4 * 2 * 8 + 16 * 8, 16 * 8))
        self.assertEqual(got[8], (512, 512))

    def test_a_bend_of_the_last_point_goes_to_the_first(self):
        got = chords(((16, 0), (0, 16, 32, 32)))
        self.assertEqual(got[:2], ((1024, 0), (0, 1024)))
        self.assertEqual(got[8], (2 * 7 * 32 + 49 * 16, 16 + 2 * 7 * 32))

    def test_the_points_of_the_document(self):
        chance = Random(1)
        for count in (2, 3, 7, 24):
            for _ in range(10):
                outline = tuple(tuple(chance.randint(-2048, 3072) for _ in range(chance.choice((2, 4))))
                                for _ in range(count))
                got = chords(outline)
                self.assertEqual(got, slow.chords(outline))
                self.assertEqual(len(got), sum(1 if len(point) == 2 else 8 for point in outline))

    def test_a_bend_whose_handle_lies_in_the_middle_lies_on_the_line(self):
        got = chords(((0, 0, 8, 4), (16, 8)))
        self.assertEqual(got, tuple((128 * i, 64 * i) for i in range(9)))

    def test_large_numbers(self):
        self.assertEqual(chords(((BIG, -BIG), (0, 0, BIG, BIG)))[0], (64 * BIG, -64 * BIG))


class WindingTest(unittest.TestCase):
    def test_both_ways_around(self):
        for x, y in ((1, 1), (1023, 1023), (512, 1)):
            self.assertEqual(abs(winding((SQUARE,), x, y)), 1)
            self.assertEqual(winding((SQUARE[::-1],), x, y), -winding((SQUARE,), x, y))
            self.assertEqual(winding((SQUARE, SQUARE), x, y), 2 * winding((SQUARE,), x, y))
        self.assertEqual(winding((SQUARE,), 5, 5), slow.winding((SQUARE,), 5, 5))

    def test_samples_on_a_line(self):
        # The upper and the left side belong to the square, the lower and the right side do not.
        inside = [(x, y) for y in (-1, 0, 512, 1023, 1024) for x in (-1, 0, 512, 1023, 1024)
                  if winding((SQUARE,), x, y) != 0]
        self.assertEqual(inside, [(x, y) for y in (0, 512, 1023) for x in (0, 512, 1023)])
        leaning = ((0, 0), (8, 8), (0, 8))
        self.assertEqual([winding((leaning,), x, 4) != 0 for x in (-1, 0, 3, 4, 5)], [False, True, True, False, False])

    def test_nothing_to_go_around(self):
        for polygons in ((), ((),), ((), ()), (((3, 3),),), (((0, 0), (9, 9)),), (((0, 4), (9, 4), (5, 4)),)):
            for place in ((0, 0), (3, 3), (4, 4), (2, 5)):
                self.assertEqual(winding(polygons, *place), 0)

    def test_the_sum_of_the_document(self):
        chance = Random(2)
        for _ in range(300):
            polygons = tuple(some_polygon(chance, -6, 6) for _ in range(chance.randint(0, 3)))
            x, y = chance.randint(-7, 7), chance.randint(-7, 7)
            self.assertEqual(winding(polygons, x, y), slow.winding(polygons, x, y))

    def test_a_polygon_cut_in_two(self):
        chance = Random(3)
        for _ in range(200):
            polygon = tuple((chance.randint(-9, 9), chance.randint(-9, 9)) for _ in range(7))
            i, j = sorted(chance.sample(range(7), 2))
            parts = (polygon[i:j + 1], polygon[j:] + polygon[:i + 1])
            for _ in range(10):
                x, y = chance.randint(-10, 10), chance.randint(-10, 10)
                self.assertEqual(winding((polygon,), x, y), winding(parts[:1], x, y) + winding(parts[1:], x, y))
                self.assertEqual(winding(parts, x, y), winding((polygon,), x, y))
                self.assertEqual(winding((polygon[::-1],), x, y), -winding((polygon,), x, y))

    def test_large_numbers(self):
        big = tuple((x * BIG, y * BIG) for x, y in SQUARE)
        self.assertEqual(winding((big,), 5 * BIG, 7), winding((SQUARE,), 5, 7))
        self.assertEqual(winding((big,), -1, 7), 0)


class CoveredTest(unittest.TestCase):
    def test_whole_and_half_pixels(self):
        self.assertEqual(covered((SQUARE,), 1024, "odd", 0, 0), 16)
        for x, y in ((1, 0), (-1, 0), (0, 1), (0, -1)):
            self.assertEqual(covered((SQUARE,), 1024, "odd", x, y), 0)
        self.assertEqual(covered((SQUARE,), 2048, "wind", 0, 0), 4)
        self.assertEqual(covered((SQUARE,), 512, "wind", 1, 1), 16)

    def test_a_sample_on_a_line(self):
        # Of a pixel of 16 units the samples lie at 2, 6, 10 and 14.
        for edge, columns in ((1, 4), (2, 4), (3, 3), (6, 3), (7, 2), (14, 1), (15, 0)):
            right = ((edge, 0), (16, 0), (16, 16), (edge, 16))
            left = ((0, 0), (edge, 0), (edge, 16), (0, 16))
            self.assertEqual(covered((right,), 16, "odd", 0, 0), 4 * columns)
            self.assertEqual(covered((left,), 16, "odd", 0, 0), 16 - 4 * columns)
            turned = tuple((y, x) for x, y in right)
            self.assertEqual(covered((turned,), 16, "odd", 0, 0), 4 * columns)

    def test_the_two_rules(self):
        self.assertEqual(covered((SQUARE, SQUARE), 1024, "odd", 0, 0), 0)
        self.assertEqual(covered((SQUARE, SQUARE), 1024, "wind", 0, 0), 16)
        self.assertEqual(covered((SQUARE, SQUARE[::-1]), 1024, "wind", 0, 0), 0)
        self.assertEqual(covered((SQUARE,) * 3, 1024, "odd", 0, 0), 16)
        self.assertEqual(covered((SQUARE[::-1],), 1024, "odd", 0, 0), 16)

    def test_no_polygon_at_all(self):
        for polygons in ((), ((),), (((3, 3),),)):
            for rule in ("odd", "wind"):
                self.assertEqual(covered(polygons, 1024, rule, 0, 0), 0)

    def test_the_samples_of_the_document(self):
        chance = Random(4)
        for _ in range(250):
            unit = chance.choice((16, 32, 48, 1024, 16384))
            polygons = tuple(some_polygon(chance, -3 * unit, 4 * unit) for _ in range(chance.randint(0, 3)))
            rule = chance.choice(("odd", "wind"))
            x, y = chance.randint(-4, 5), chance.randint(-4, 5)
            self.assertEqual(covered(polygons, unit, rule, x, y), slow.covered(polygons, unit, rule, x, y))

    def test_small_polygons_with_samples_on_their_lines(self):
        chance = Random(5)
        for _ in range(250):
            polygons = tuple(tuple((2 * chance.randint(-3, 12), 2 * chance.randint(-3, 12)) for _ in range(4))
                             for _ in range(2))
            for rule in ("odd", "wind"):
                self.assertEqual(covered(polygons, 16, rule, 0, 0), slow.covered(polygons, 16, rule, 0, 0))

    def test_moved_polygons(self):
        chance = Random(6)
        for _ in range(60):
            polygons = tuple(some_polygon(chance) for _ in range(2))
            p, q = chance.choice(((1, 0), (-3, 2), (BIG, -BIG)))
            moved = tuple(tuple((x + p * 1024, y + q * 1024) for x, y in polygon) for polygon in polygons)
            x, y = chance.randint(-3, 5), chance.randint(-3, 5)
            for rule in ("odd", "wind"):
                self.assertEqual(covered(moved, 1024, rule, x + p, y + q), covered(polygons, 1024, rule, x, y))

    def test_far_corners_are_not_walked_to(self):
        big = tuple((x * BIG - BIG, y * BIG - BIG) for x, y in SQUARE)
        self.assertEqual(covered((big,), 1024, "odd", BIG // 2, -10), 16)
        self.assertEqual(covered((big,), 1024, "odd", 0, BIG), 0)

    def test_nothing_is_covered_outside_the_bounds(self):
        chance = Random(7)
        for _ in range(40):
            polygons = (chords(growing.outline(chance)), chords(growing.outline(chance)))
            x0, y0, x1, y1 = bounds_of(polygons, 1024)
            for x in range(x0 - 2, x1 + 2):
                for y in range(y0 - 2, y1 + 2):
                    if not (x0 <= x < x1 and y0 <= y < y1):
                        self.assertEqual(covered(polygons, 1024, "wind", x, y), 0)


class BoundsTest(unittest.TestCase):
    def test_no_point(self):
        for polygons in ((), ((),), ((), ())):
            self.assertIsNone(bounds_of(polygons, 16))

    def test_the_pixels_of_all_points(self):
        self.assertEqual(bounds_of((((0, 0),),), 16), (0, 0, 1, 1))
        self.assertEqual(bounds_of((((-1, 15), (16, -16)),), 16), (-1, -1, 2, 1))
        self.assertEqual(bounds_of((((31, 0),), (), ((5, 32),)), 16), (0, 0, 2, 3))
        self.assertEqual(bounds_of((SQUARE,), 1024), (0, 0, 2, 2))
        self.assertEqual(bounds_of((((16 * BIG, 0),),), 16), (BIG, 0, BIG + 1, 1))


class SampleAlphaTest(unittest.TestCase):
    def test_all(self):
        self.assertEqual([sample_alpha(n) for n in range(17)],
                         [0, 16, 32, 48, 64, 80, 96, 112, 128, 143, 159, 175, 191, 207, 223, 239, 255])


if __name__ == "__main__":
    unittest.main()
