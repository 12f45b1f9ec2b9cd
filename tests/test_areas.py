"""The helpers easelwork.areas and easelwork.planes: little more is made than what placed layers look at."""

import unittest
from random import Random

from making import BIG, places_of

from easelwork.areas import areas
from easelwork.layers import layer
from easelwork.planes import layer_blocks, plane_blocks

SHRUNK = (4, 0, 0, 0, 4, 0, 1)
COLOR = (1, 2, 3, 4)


class AreasTest(unittest.TestCase):
    def test_no_places(self):
        self.assertEqual(areas([], 3, 4), [])

    def test_dense_places_stay_together(self):
        places = [(x, y) for x in range(-4, 9) for y in range(2, 7)]
        self.assertEqual(areas(places, 0, 0), [(-4, 2, 9, 7)])
        self.assertEqual(areas([(5, -7)], 0, 9), [(5, -7, 6, -6)])

    def test_scattered_places_are_parted(self):
        self.assertEqual(sorted(areas([(0, 0), (1, 0), (BIG, BIG), (-BIG, 5)], 0, 0)),
                         [(-BIG, 5, 1 - BIG, 6), (0, 0, 2, 1), (BIG, BIG, BIG + 1, BIG + 1)])

    def test_wide_margins_keep_them_together(self):
        grid = [(9 * x, 9 * y) for x in range(5) for y in range(5)]
        self.assertEqual(len(areas(grid, 0, 0)), 25)
        self.assertEqual(areas(grid, 40, 40), [(0, 0, 37, 37)])

    def test_all_places_are_held_and_none_twice(self):
        chance = Random(1)
        for _ in range(60):
            places = list({(chance.randint(-20, 20), chance.randint(-20, 20)) for _ in range(chance.randint(1, 60))})
            rects = areas(places, chance.randint(0, 5), chance.randint(0, 5))
            held = [place for rect in rects for place in places_of([rect])]
            self.assertLessEqual(set(places), set(held))
            self.assertEqual(len(held), len(set(held)))


class PlacedTest(unittest.TestCase):
    """How many pixels of its children a placed layer asks for, which is shrunk to a quarter of the size."""

    def asked(self, *children, matrix=SHRUNK, wide=32):
        counts = {}

        def giver(child, rects):
            for x0, y0, x1, y1 in rects:
                counts[child[0]] = counts.get(child[0], 0) + (x1 - x0) * (y1 - y0)
            return plane_blocks(child, rects)
        layer_blocks(layer(0, "placed", *children, matrix=matrix), [(0, 0, wide, wide)], giver)
        return counts

    def test_scattered_places(self):
        self.assertLessEqual(self.asked(layer(1, "paint"))[1], 4 * 32 * 32)
        # Turned by an eighth and enlarged, the places fill no rows and columns.
        self.assertLessEqual(self.asked(layer(1, "paint"), matrix=(4, 4, 0, -4, 4, 0, 1))[1], 4 * 32 * 32)

    def test_dense_places(self):
        self.assertEqual(self.asked(layer(1, "paint"), matrix=(1, 0, 5, 0, 1, 0, 1))[1], 32 * 32)

    def test_effects_look_at_a_whole_square_once(self):
        blur = layer(9, "blur", radius=3, times=3)
        rank = layer(8, "rank", across=3, down=3)
        square = 160 * 160
        self.assertLessEqual(self.asked(layer(1, "paint"), blur)[1], square)
        self.assertLessEqual(self.asked(layer(1, "paint"), layer(7, "pass", rank, blur))[1], square)
        self.assertLessEqual(self.asked(layer(2, "group", layer(1, "paint"), blur))[2], square)
        self.assertLessEqual(self.asked(layer(2, "styled", layer(1, "paint"), shadows=((20, 20, 3, 1, COLOR),)))[2],
                             square)
        self.assertLessEqual(self.asked(layer(2, "group", layer(1, "paint"), blur), blur)[2], square)

    def test_far_apart_places_are_not_joined(self):
        far = layer(3, "placed", layer(1, "paint"), matrix=SHRUNK)
        self.assertLessEqual(self.asked(far)[3], 4 * 32 * 32)


if __name__ == "__main__":
    unittest.main()
