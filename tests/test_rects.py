"""Point 9: rects and their blocks."""

import unittest
from random import Random

from making import BIG, places_of, some_rects

from easelwork.rects import around, around_places, cut, holds, overlap, widened


class RectTest(unittest.TestCase):
    def test_overlap_holds_the_common_places(self):
        chance = Random(1)
        for _ in range(500):
            a, b = some_rects(chance, 2, -4, 5)
            common = places_of([a]) & places_of([b])
            got = overlap(a, b)
            self.assertEqual(overlap(b, a), got)
            self.assertEqual(places_of([got]) if got else set(), common)
            self.assertEqual(got is None, not common)

    def test_rects_that_touch_do_not_overlap(self):
        for b in ((3, 0, 5, 2), (-2, 0, 0, 2), (0, 2, 3, 4), (0, -1, 3, 0), (3, 2, 4, 3), (9, 9, 10, 10)):
            self.assertIsNone(overlap((0, 0, 3, 2), b))
        self.assertEqual(overlap((0, 0, 3, 2), (2, 1, 9, 9)), (2, 1, 3, 2))
        self.assertEqual(overlap((-BIG, -BIG, BIG, BIG), (BIG - 1, 0, BIG + 1, 1)), (BIG - 1, 0, BIG, 1))

    def test_widened(self):
        self.assertEqual(widened((1, 2, 3, 4), 10, 20, 30, 40), (-9, -18, 33, 44))
        self.assertEqual(widened((1, 2, 3, 4), 0, 0, 0, 0), (1, 2, 3, 4))
        self.assertEqual(widened((0, 0, 1, 1), BIG, 0, 0, BIG), (-BIG, 0, 1, BIG + 1))

    def test_around(self):
        self.assertIsNone(around(()))
        self.assertIsNone(around([]))
        self.assertEqual(around([(1, 2, 3, 4)]), (1, 2, 3, 4))
        self.assertEqual(around(((1, 8, 3, 9), (-2, 5, 0, 7), (0, 0, 1, 1))), (-2, 0, 3, 9))
        chance = Random(2)
        for _ in range(100):
            rects = some_rects(chance, 3, -9, 9)
            x = [x for x, _ in places_of(rects)]
            y = [y for _, y in places_of(rects)]
            self.assertEqual(around(rects), (min(x), min(y), max(x) + 1, max(y) + 1))

    def test_around_places(self):
        self.assertIsNone(around_places(()))
        self.assertIsNone(around_places([]))
        self.assertEqual(around_places(((4, -3),)), (4, -3, 5, -2))
        self.assertEqual(around_places([(1, 7), (5, 2), (0, 3)]), (0, 2, 6, 8))
        self.assertEqual(around_places(((1, 7, "a"), (5, 2, None, 9), (0, BIG))), (0, 2, 6, BIG + 1))

    def test_holds(self):
        rect = (-1, 2, 3, 4)
        found = {(x, y) for x in range(-5, 6) for y in range(-5, 6) if holds(rect, x, y)}
        self.assertEqual(found, places_of([rect]))
        self.assertIs(holds(rect, -1, 2), True)
        self.assertIs(holds(rect, 3, 2), False)
        self.assertIs(holds((0, 0, BIG, BIG), BIG - 1, 5), True)

    def test_cut_takes_every_part(self):
        rect = (-2, 5, 2, 8)
        block = tuple(tuple((x, y) for x in range(-2, 2)) for y in range(5, 8))
        self.assertEqual(cut(block, rect, rect), block)
        for x0 in range(-2, 2):
            for x1 in range(x0 + 1, 3):
                for y0 in range(5, 8):
                    for y1 in range(y0 + 1, 9):
                        wanted = tuple(tuple((x, y) for x in range(x0, x1)) for y in range(y0, y1))
                        self.assertEqual(cut(block, rect, (x0, y0, x1, y1)), wanted)

    def test_cut_far_away_with_things_of_any_kind(self):
        block = (("a", None, 1), ((), True, "d"))
        got = cut(block, (BIG, -BIG, BIG + 3, 2 - BIG), (BIG + 1, 1 - BIG, BIG + 2, 2 - BIG))
        self.assertEqual(got, ((True,),))
        self.assertIs(type(got), tuple)

    def test_lists_stay_as_they_were(self):
        rects = [(3, 3, 4, 4), (0, 0, 1, 1)]
        places = [(3, 3), (0, 0)]
        around(rects)
        around_places(places)
        self.assertEqual((rects, places), ([(3, 3, 4, 4), (0, 0, 1, 1)], [(3, 3), (0, 0)]))


if __name__ == "__main__":
    unittest.main()
