"""Points 16 and 17: where pixels look, and the bounds of this for regions."""

import unittest
from fractions import Fraction
from math import ceil, floor
from random import Random

from making import BIG, some_pixels, some_rects

from easelwork.matrices import Matrix
from easelwork.pixels import is_pixel
from easelwork.regions import Region
from easelwork.taps import back, look, tapped, taps

MANNERS = ("near", "smooth")
SAME = (1, 0, 0, 0, 1, 0, 1)


def some_matrix(chance, size=None):
    """A matrix as a layer holds it, or a larger one."""
    while True:
        n = chance.choice((1, 2, 3, 64, chance.randint(1, 64)))
        most = size or chance.choice((1, 4 * n))
        a, b, d, e = [chance.randint(-most, most) for _ in range(4)]
        c, f = [chance.choice((0, 1, -1, chance.randint(-4 * n, 4 * n))) for _ in range(2)]
        if a * e - b * d:
            return (a, b, c, d, e, f, n)


def looked_at(matrix, x, y):
    """The point that the middle of the pixel is taken to."""
    a, b, c, d, e, f, n = matrix
    x, y = x + Fraction(1, 2), y + Fraction(1, 2)
    return ((a * x + b * y + c) / n, (d * x + e * y + f) / n)


def slow_taps(matrix, manner, x, y):
    u, v = looked_at(matrix, x, y)
    if manner == "near":
        return ((floor(u), floor(v), 65536),)
    p = floor(256 * (u - Fraction(1, 2)))
    q = floor(256 * (v - Fraction(1, 2)))
    out = []
    for j in (floor(Fraction(q, 256)), floor(Fraction(q, 256)) + 1):
        for i in (floor(Fraction(p, 256)), floor(Fraction(p, 256)) + 1):
            weight = (256 - abs(256 * i - p)) * (256 - abs(256 * j - q))
            if weight:
                out.append((i, j, weight))
    return tuple(out)


def slow_look(matrix, manner, region):
    rects = []
    for x0, y0, x1, y1 in region.rects():
        points = [looked_at(matrix, x, y) for x in (x0, x1 - 1) for y in (y0, y1 - 1)]
        sides = []
        for at in (0, 1):
            low, high = min(p[at] for p in points), max(p[at] for p in points)
            if manner == "near":
                sides.append((floor(low), floor(high) + 1))
            else:
                sides.append((floor(low - Fraction(1, 2)), floor(high - Fraction(1, 2)) + 2))
        rects.append((sides[0][0], sides[1][0], sides[0][1], sides[1][1]))
    return Region.of(rects)


def slow_back(matrix, manner, region):
    a, b, c, d, e, f, n = matrix
    area = Fraction(a * e - b * d)
    more = Fraction(1, 2) if manner == "smooth" else 0
    rects = []
    for x0, y0, x1, y1 in region.rects():
        points = []
        for x in (x0 - more, x1 + more):
            for y in (y0 - more, y1 + more):
                u, v = n * x - c, n * y - f
                points.append(((e * u - b * v) / area, (a * v - d * u) / area))
        sides = []
        for at in (0, 1):
            low, high = min(p[at] for p in points), max(p[at] for p in points)
            sides.append((ceil(low - Fraction(1, 2)), floor(high - Fraction(1, 2)) + 1))
        if sides[0][0] < sides[0][1] and sides[1][0] < sides[1][1]:
            rects.append((sides[0][0], sides[1][0], sides[0][1], sides[1][1]))
    return Region.of(rects)


def some_regions(chance, count):
    return [Region.of(some_rects(chance, chance.randint(1, 4), -7, 8)) for _ in range(count)]


class TapsTest(unittest.TestCase):
    def test_the_formulas_of_the_document(self):
        chance = Random(1)
        for _ in range(1500):
            matrix = some_matrix(chance)
            x, y = chance.randint(-40, 40), chance.randint(-40, 40)
            for manner in MANNERS:
                self.assertEqual(taps(matrix, manner, x, y), slow_taps(matrix, manner, x, y))

    def test_large_numbers(self):
        chance = Random(2)
        for _ in range(300):
            matrix = some_matrix(chance, BIG)
            x, y = chance.randint(-BIG, BIG), chance.randint(-BIG, BIG)
            for manner in MANNERS:
                self.assertEqual(taps(matrix, manner, x, y), slow_taps(matrix, manner, x, y))
        self.assertEqual(taps(SAME, "near", BIG, -BIG), ((BIG, -BIG, 65536),))
        self.assertEqual(taps(SAME, "smooth", BIG, -BIG), ((BIG, -BIG, 65536),))

    def test_one_two_and_four_taps(self):
        self.assertEqual(taps(SAME, "smooth", -3, 4), ((-3, 4, 65536),))
        half = 32768
        self.assertEqual(taps((2, 0, 1, 0, 2, 0, 2), "smooth", 0, 0), ((0, 0, half), (1, 0, half)))
        self.assertEqual(taps((2, 0, 0, 0, 2, -1, 2), "smooth", 0, 0), ((0, -1, half), (0, 0, half)))
        self.assertEqual(taps((2, 0, 1, 0, 2, -1, 2), "smooth", 0, 0),
                         ((0, -1, 16384), (1, -1, 16384), (0, 0, 16384), (1, 0, 16384)))

    def test_the_smallest_and_greatest_weights(self):
        self.assertEqual(taps((256, 0, 1, 0, 256, 1, 256), "smooth", 0, 0),
                         ((0, 0, 65025), (1, 0, 255), (0, 1, 255), (1, 1, 1)))
        self.assertEqual(taps((256, 0, -1, 0, 256, -1, 256), "smooth", 0, 0),
                         ((-1, -1, 1), (0, -1, 255), (-1, 0, 255), (0, 0, 65025)))

    def test_weights_add_up_and_taps_are_in_order(self):
        chance = Random(3)
        for _ in range(1500):
            matrix = some_matrix(chance, chance.choice((None, 10 ** 9)))
            for manner in MANNERS:
                found = taps(matrix, manner, chance.randint(-99, 99), chance.randint(-99, 99))
                self.assertEqual(sum(weight for _, _, weight in found), 65536)
                self.assertTrue(all(weight > 0 for _, _, weight in found))
                self.assertEqual(list(found), sorted(found, key=lambda tap: (tap[1], tap[0])))
                self.assertIs(type(found), tuple)

    def test_matrices_that_are_equal_in_lowest_terms_have_the_same_taps(self):
        chance = Random(4)
        for _ in range(500):
            matrix = some_matrix(chance)
            by = chance.choice((2, 3, 7, BIG))
            for manner in MANNERS:
                x, y = chance.randint(-20, 20), chance.randint(-20, 20)
                wanted = taps(Matrix(*matrix).parts(), manner, x, y)
                self.assertEqual(taps(matrix, manner, x, y), wanted)
                self.assertEqual(taps(tuple(by * part for part in matrix), manner, x, y), wanted)


class TappedTest(unittest.TestCase):
    def test_by_hand(self):
        self.assertEqual(tapped((((1, 2, 3, 4), 65536),)), (1, 2, 3, 4))
        self.assertEqual(tapped((((0, 0, 1, 3), 32768), ((1, 0, 2, 4), 32768))), (1, 0, 2, 4))
        self.assertEqual(tapped((((0, 0, 0, 0), 32769), ((1, 1, 1, 1), 32767))), (0, 0, 0, 0))

    def test_the_answer_is_a_pixel_between_the_given_ones(self):
        chance = Random(5)
        pixels = some_pixels(200, 6)
        for _ in range(1000):
            found = taps(some_matrix(chance), "smooth", chance.randint(-9, 9), chance.randint(-9, 9))
            pairs = tuple((chance.choice(pixels), weight) for _, _, weight in found)
            got = tapped(pairs)
            self.assertTrue(is_pixel(got))
            for part in range(4):
                total = sum(Fraction(weight * pixel[part], 65536) for pixel, weight in pairs)
                self.assertEqual(got[part], floor(total + Fraction(1, 2)))
                parts = [pixel[part] for pixel, _ in pairs]
                self.assertTrue(min(parts) <= got[part] <= max(parts))


class BoundsTest(unittest.TestCase):
    def test_the_bounds_of_the_document(self):
        chance = Random(7)
        for region in some_regions(chance, 250):
            matrix = some_matrix(chance)
            for manner in MANNERS:
                self.assertEqual(look(matrix, manner, region), slow_look(matrix, manner, region))
                self.assertEqual(back(matrix, manner, region), slow_back(matrix, manner, region))

    def test_large_numbers(self):
        chance = Random(8)
        for _ in range(150):
            matrix = some_matrix(chance, chance.choice((5, BIG)))
            x, y = chance.randint(-BIG, BIG), chance.randint(-BIG, BIG)
            region = Region.of([(x, y, x + chance.randint(1, BIG), y + 1), (y, x, y + 3, x + chance.randint(1, BIG))])
            for manner in MANNERS:
                self.assertEqual(look(matrix, manner, region), slow_look(matrix, manner, region))
                self.assertEqual(back(matrix, manner, region), slow_back(matrix, manner, region))

    def test_the_empty_region_and_everything(self):
        for matrix in (SAME, (0, -3, 5, 2, 0, 7, 4)):
            for manner in MANNERS:
                for bound in (look, back):
                    self.assertEqual(bound(matrix, manner, Region.empty()), Region.empty())
                    self.assertEqual(bound(matrix, manner, Region.everything()), Region.everything())

    def test_all_taps_lie_in_look(self):
        chance = Random(9)
        for region in some_regions(chance, 120):
            matrix = some_matrix(chance)
            for manner in MANNERS:
                bound = look(matrix, manner, region)
                for x, y in region.places():
                    for i, j, _ in taps(matrix, manner, x, y):
                        self.assertIn((i, j), bound)

    def test_every_place_with_a_tap_in_the_region_lies_in_back(self):
        chance = Random(10)
        for region in some_regions(chance, 60):
            matrix = some_matrix(chance)
            for manner in MANNERS:
                bound = back(matrix, manner, region)
                for x in range(-14, 15):
                    for y in range(-14, 15):
                        if any((i, j) in region for i, j, _ in taps(matrix, manner, x, y)):
                            self.assertIn((x, y), bound)

    def test_a_rect_between_two_middles_has_nothing_behind_it(self):
        # Every pixel looks four pixels further than its neighbour, so most of what is there is not looked at.
        self.assertEqual(back((4, 0, 0, 0, 4, 0, 1), "near", Region.of([(0, 0, 1, 1)])), Region.empty())
        self.assertEqual(back((4, 0, 0, 0, 1, 0, 1), "near", Region.of([(0, 0, 1, 9)])), Region.empty())
        self.assertEqual(back((1, 0, 0, 0, 4, 0, 1), "near", Region.of([(0, 0, 9, 1)])), Region.empty())
        self.assertEqual(back((4, 0, 0, 0, 4, 0, 1), "near", Region.of([(2, 2, 3, 3)])).rects(), ((0, 0, 1, 1),))
        self.assertEqual(back((4, 0, 0, 0, 4, 0, 1), "smooth", Region.of([(0, 0, 1, 1)])), Region.empty())
        self.assertEqual(back((4, 0, 0, 0, 4, 0, 1), "smooth", Region.of([(1, 1, 2, 2)])).rects(), ((0, 0, 1, 1),))

    def test_the_plainest_matrix(self):
        region = Region.of([(-2, 3, 4, 5)])
        self.assertEqual(look(SAME, "near", region), region)
        self.assertEqual(back(SAME, "near", region), region)
        self.assertEqual(look(SAME, "smooth", region).rects(), ((-2, 3, 5, 6),))
        self.assertEqual(back(SAME, "smooth", region).rects(), ((-3, 2, 5, 6),))


if __name__ == "__main__":
    unittest.main()
