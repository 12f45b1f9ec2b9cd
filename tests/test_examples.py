"""The examples of the interface, as they stand there."""

import unittest

from easelwork.errors import BadText, EndlessRegion


class StageOneTest(unittest.TestCase):
    def test_arith(self):
        from easelwork.arith import mix, straight
        self.assertEqual(mix(10, 20, 128), 15)
        self.assertEqual(straight(1, 3), 85)

    def test_pixels(self):
        from easelwork.pixels import ink
        self.assertEqual(ink((255, 128, 0, 128)), (128, 64, 0, 128))

    def test_modes(self):
        from easelwork.modes import blend, kept
        self.assertEqual(blend("over", (100, 0, 0, 100), (0, 200, 0, 200)), (100, 122, 0, 222))
        self.assertEqual(blend("multiply", (100, 0, 0, 100), (0, 200, 0, 200)), (22, 122, 0, 222))
        self.assertEqual(kept("over", (100, 0, 0, 100), (0, 200, 0, 200)), (78, 122, 0, 200))

    def test_rects(self):
        from easelwork.rects import cut
        self.assertEqual(cut(((1, 2, 3), (4, 5, 6)), (10, 0, 13, 2), (11, 1, 13, 2)), ((5, 6),))

    def test_regions(self):
        from easelwork.regions import Region
        self.assertEqual(Region.of([(1, 1, 3, 3), (0, 0, 2, 2)]).bands,
                         ((0, 1, ((0, 2),)), (1, 2, ((0, 3),)), (2, 3, ((1, 3),))))
        self.assertEqual(Region.of([(-3, 0, 2, 1)]).halved().rects(), ((-2, 0, 1, 1),))
        with self.assertRaises(EndlessRegion):
            Region.everything() - Region.of([(0, 0, 1, 1)])

    def test_coverage(self):
        from easelwork.coverage import Coverage
        cover = Coverage([(1, 0, 9), (0, 0, 0), (0, 1, 255)])
        self.assertEqual((cover.spots, cover.grown(1, (0, 0, 3, 1)).spots),
                         (((1, 0, 9), (0, 1, 255)), ((0, 0, 9), (1, 0, 9), (2, 0, 9))))
        self.assertEqual(Coverage([(1, 0, 9), (0, 1, 255)]).feathered(1, (0, 0, 2, 1)).spots,
                         ((0, 0, 3), (1, 0, 6)))


class StageTwoTest(unittest.TestCase):
    def test_notation(self):
        from easelwork.notation import read_value, write_value
        self.assertEqual(write_value((1, "a", (), (True,), None)), '(1,"a",(),(true,),none)')
        with self.assertRaises(BadText) as caught:
            read_value("(1,2,)")
        self.assertEqual(caught.exception.position, 5)

    def test_disk(self):
        from easelwork.disk import Disk
        disk = Disk(4, 40)
        disk.write(0, "a" * 40)
        disk.sync()
        disk.write(1, "b" * 40)
        disk.write(2, "c" * 40)
        found = disk.cut(4, (("head", 3), ("lost",)))
        self.assertEqual((found.read(0)[:5], found.read(1)[:5], found.read(2)[:5]), ("aaaaa", "bbb~~", "~~~~~"))

    def test_tones(self):
        from easelwork.tones import Curve
        curve = Curve(((0, 0), (100, 50), (255, 255)))
        self.assertEqual((curve(1), curve(100), curve(200)), (1, 50, 182))

    def test_kernels(self):
        from easelwork.kernels import convolved
        block = (((10, 10, 10, 10), (20, 20, 20, 20), (40, 40, 40, 40)),)
        self.assertEqual(convolved(block, ((1, 2, -1),), 2), (((5, 5, 5, 5),),))

    def test_matrices(self):
        from easelwork.matrices import Matrix
        self.assertEqual((Matrix(2, 0, 0, 0, 2, 0, 1) * Matrix(1, 0, 3, 0, 1, 0, 1)).parts(), (2, 0, 6, 0, 2, 0, 1))
        self.assertEqual(Matrix(2, 0, 6, 0, 2, 0, 1).inverse().parts(), (1, 0, -6, 0, 1, 0, 2))

    def test_taps(self):
        from easelwork.regions import Region
        from easelwork.taps import back, taps
        self.assertEqual(taps((1, 0, 0, 0, 1, 0, 2), "smooth", 0, 0),
                         ((-1, -1, 4096), (0, -1, 12288), (-1, 0, 12288), (0, 0, 36864)))
        self.assertEqual(back((1, 0, 0, 0, 1, 0, 2), "smooth", Region.of([(0, 0, 1, 1)])).rects(), ((-1, -1, 3, 3),))


if __name__ == "__main__":
    unittest.main()
