"""The examples of the interface, as they stand there."""

import unittest

from easelwork.errors import EndlessRegion


class StageOneTest(unittest.TestCase):
    def test_arith(self):
        from easelwork.arith import mix, straight
        self.assertEqual(mix(10, 20, 128), 15)
        self.assertEqual(straight(1, 3), 85)

    def test_pixels(self):
        from easelwork.pixels import ink
        self.assertEqual(ink((255, 128, 0, 128)), (128, 64, 0, 128))

    def test_modes(self):
        from easelwork.modes import blend, kept
        self.assertEqual(blend("over", (100, 0, 0, 100), (0, 200, 0, 200)), (100, 122, 0, 222))
        self.assertEqual(blend("multiply", (100, 0, 0, 100), (0, 200, 0, 200)), (22, 122, 0, 222))
        self.assertEqual(kept("over", (100, 0, 0, 100), (0, 200, 0, 200)), (78, 122, 0, 200))

    def test_rects(self):
        from easelwork.rects import cut
        self.assertEqual(cut(((1, 2, 3), (4, 5, 6)), (10, 0, 13, 2), (11, 1, 13, 2)), ((5, 6),))

    def test_regions(self):
        from easelwork.regions import Region
        self.assertEqual(Region.of([(1, 1, 3, 3), (0, 0, 2, 2)]).bands,
                         ((0, 1, ((0, 2),)), (1, 2, ((0, 3),)), (2, 3, ((1, 3),))))
        self.assertEqual(Region.of([(-3, 0, 2, 1)]).halved().rects(), ((-2, 0, 1, 1),))
        with self.assertRaises(EndlessRegion):
            Region.everything() - Region.of([(0, 0, 1, 1)])

    def test_coverage(self):
        from easelwork.coverage import Coverage
        cover = Coverage([(1, 0, 9), (0, 0, 0), (0, 1, 255)])
        self.assertEqual((cover.spots, cover.grown(1, (0, 0, 3, 1)).spots),
                         (((1, 0, 9), (0, 1, 255)), ((0, 0, 9), (1, 0, 9), (2, 0, 9))))
        self.assertEqual(Coverage([(1, 0, 9), (0, 1, 255)]).feathered(1, (0, 0, 2, 1)).spots,
                         ((0, 0, 3), (1, 0, 6)))


if __name__ == "__main__":
    unittest.main()
