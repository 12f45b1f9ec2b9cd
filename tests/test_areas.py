"""easelwork.areas, a helper: rects around scattered places."""

import unittest
from random import Random

from making import BIG, places_of

from easelwork.areas import areas


class AreasTest(unittest.TestCase):
    def test_no_places(self):
        self.assertEqual(areas([], 3, 4), [])

    def test_dense_places_stay_together(self):
        places = [(x, y) for x in range(-4, 9) for y in range(2, 7)]
        self.assertEqual(areas(places, 0, 0), [(-4, 2, 9, 7)])
        self.assertEqual(areas([(5, -7)], 0, 9), [(5, -7, 6, -6)])

    def test_scattered_places_are_parted(self):
        self.assertEqual(sorted(areas([(0, 0), (1, 0), (BIG, BIG), (-BIG, 5)], 0, 0)),
                         [(-BIG, 5, 1 - BIG, 6), (0, 0, 2, 1), (BIG, BIG, BIG + 1, BIG + 1)])

    def test_wide_margins_keep_them_together(self):
        grid = [(9 * x, 9 * y) for x in range(5) for y in range(5)]
        self.assertEqual(len(areas(grid, 0, 0)), 25)
        self.assertEqual(areas(grid, 40, 40), [(0, 0, 37, 37)])

    def test_all_places_are_held_and_none_twice(self):
        chance = Random(1)
        for _ in range(60):
            places = list({(chance.randint(-20, 20), chance.randint(-20, 20)) for _ in range(chance.randint(1, 60))})
            rects = areas(places, chance.randint(0, 5), chance.randint(0, 5))
            held = [place for rect in rects for place in places_of([rect])]
            self.assertLessEqual(set(places), set(held))
            self.assertEqual(len(held), len(set(held)))


if __name__ == "__main__":
    unittest.main()
