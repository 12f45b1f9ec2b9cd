"""Points 10 and 11: regions with large coordinates and with many bands; nothing is counted through."""

import unittest
from random import Random

from making import BIG, some_rects

from easelwork.regions import Region


def stretched(v):
    """A large number for a small one, in the same order."""
    return v * BIG + v % 3


def stretched_rect(rect):
    return tuple(stretched(v) for v in rect)


class FarTest(unittest.TestCase):
    def test_operators_do_not_depend_on_the_distances(self):
        chance = Random(1)
        for _ in range(200):
            rects = some_rects(chance, 3, -5, 6)
            others = some_rects(chance, 3, -5, 6)
            a, b = Region.of(rects), Region.of(others)
            far_a = Region.of([stretched_rect(rect) for rect in rects])
            far_b = Region.of([stretched_rect(rect) for rect in others])
            for near, far in ((a | b, far_a | far_b), (a & b, far_a & far_b), (a - b, far_a - far_b)):
                self.assertEqual(far.rects(), tuple(stretched_rect(rect) for rect in near.rects()))

    def test_changes_of_a_large_rect(self):
        region = Region.of([(-BIG, 1 - BIG, BIG + 1, BIG)])
        self.assertEqual(region.halved().rects(), ((-BIG // 2, -BIG // 2, BIG // 2 + 1, BIG // 2),))
        self.assertEqual(region.doubled().rects(), ((-2 * BIG, 2 - 2 * BIG, 2 * BIG + 2, 2 * BIG),))
        self.assertEqual(region.grown(BIG, 0, 1, 2 * BIG).rects(), ((-2 * BIG, 1 - BIG, BIG + 2, 3 * BIG),))
        self.assertEqual(region.moved(BIG, BIG).box(), (0, 1, 2 * BIG + 1, 2 * BIG))
        self.assertTrue((BIG, BIG - 1) in region)
        self.assertFalse((BIG + 1, 0) in region)
        self.assertTrue(region.meets((BIG, 0, 9 * BIG, 1)))
        self.assertFalse(region.meets((BIG + 1, 0, 9 * BIG, 1)))

    def test_growing_over_large_gaps(self):
        region = Region.of([(0, 0, 1, 1), (BIG, 0, BIG + 1, 1), (0, BIG, 1, BIG + 1)])
        self.assertEqual(region.grown(0, 0, BIG - 1, 0).bands,
                         ((0, 1, ((0, 2 * BIG),)), (BIG, BIG + 1, ((0, BIG),))))
        self.assertEqual(region.grown(0, BIG, 0, 0).box(), (0, -BIG, BIG + 1, BIG + 1))

    def test_places_far_away(self):
        region = Region.of([(BIG, -BIG, BIG + 2, 1 - BIG)])
        self.assertEqual(list(region.places()), [(BIG, -BIG), (BIG + 1, -BIG)])


class ManyTest(unittest.TestCase):
    def test_many_rects_within_one_another(self):
        self.assertEqual(Region.of([(-i, -i, i, i) for i in range(1, 2000)]).rects(), ((-1999, -1999, 1999, 1999),))

    def test_a_long_staircase(self):
        region = Region.of([(i, i, i + 1, i + 1) for i in range(3000)])
        self.assertEqual(len(region.bands), 3000)
        self.assertEqual(len((region | region.moved(2, 0)).rects()), 6000)
        self.assertEqual(region & region.moved(1, 0), Region.empty())
        self.assertEqual(len(region.grown(1, 1, 1, 1).bands), 3002)

    def test_a_checkerboard(self):
        region = Region.of([(x, y, x + 1, y + 1) for x in range(64) for y in range(64) if (x + y) % 2])
        self.assertEqual(len(region.rects()), 2048)
        self.assertEqual(region.halved().rects(), ((0, 0, 32, 32),))
        self.assertEqual((region | region.moved(1, 0)).box(), (0, 0, 65, 64))
        self.assertEqual(region - region.moved(1, 1), Region.of(
            [(x, 0, x + 1, 1) for x in range(1, 64, 2)] + [(0, y, 1, y + 1) for y in range(1, 64, 2)]))


if __name__ == "__main__":
    unittest.main()
