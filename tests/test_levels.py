"""Point 27: levels, and their guarantees in point 28."""

import unittest
from random import Random

import slow
from making import BIG, pixel_block, some_pixels

from easelwork.levels import half, last_level, level_of, level_size
from easelwork.pixels import is_pixel

SIZES = ((1, 1), (2, 1), (1, 2), (3, 1), (1, 5), (2, 2), (3, 2), (5, 4), (7, 7), (8, 3), (64, 1))


class HalfTest(unittest.TestCase):
    def test_by_hand(self):
        block = (((0, 0, 0, 1), (1, 2, 3, 4), (0, 0, 0, 9)), ((0, 0, 0, 2), (0, 0, 0, 4), (0, 0, 0, 8)),
                 ((0, 0, 0, 1), (0, 1, 0, 2), (5, 5, 5, 5)))
        self.assertEqual(half(block), (((0, 1, 1, 3), (0, 0, 0, 9)), ((0, 1, 0, 2), (5, 5, 5, 5))))

    def test_the_block_of_nothing(self):
        self.assertEqual(half(()), ())
        for level in (0, 1, 100):
            self.assertEqual(level_of((), level), ())

    def test_the_means_of_the_document(self):
        chance = Random(1)
        for wide, high in SIZES:
            for _ in range(5):
                block = pixel_block(chance, wide, high)
                got = half(block)
                self.assertEqual(got, slow.half(block))
                self.assertEqual((len(got[0]), len(got)), ((wide + 1) // 2, (high + 1) // 2))
                self.assertTrue(all(type(row) is tuple and is_pixel(p) for row in got for p in row))

    def test_equal_pixels_stay(self):
        for pixel in some_pixels(30, 2):
            for wide, high in SIZES:
                got = half(((pixel,) * wide,) * high)
                self.assertEqual({p for row in got for p in row}, {pixel})

    def test_a_part_lies_between_those_that_it_is_made_of(self):
        chance = Random(3)
        for wide, high in SIZES:
            block = pixel_block(chance, wide, high)
            for y, row in enumerate(half(block)):
                for x, pixel in enumerate(row):
                    four = [p for line in block[2 * y:2 * y + 2] for p in line[2 * x:2 * x + 2]]
                    for part in range(4):
                        self.assertLessEqual(min(p[part] for p in four), pixel[part])
                        self.assertLessEqual(pixel[part], max(p[part] for p in four))

    def test_a_change_stays_at_its_place(self):
        chance = Random(4)
        for _ in range(60):
            block = pixel_block(chance, 7, 6)
            x, y = chance.randint(0, 6), chance.randint(0, 5)
            rows = [list(row) for row in block]
            rows[y][x] = chance.choice(some_pixels(20, 5))
            before, after = half(block), half(tuple(map(tuple, rows)))
            changed = {(i, j) for j in range(3) for i in range(4) if before[j][i] != after[j][i]}
            self.assertLessEqual(changed, {(x // 2, y // 2)})


class LevelTest(unittest.TestCase):
    def test_sizes(self):
        self.assertEqual([level_size(64, 5, level) for level in range(8)],
                         [(64, 5), (32, 3), (16, 2), (8, 1), (4, 1), (2, 1), (1, 1), (1, 1)])
        self.assertEqual(level_size(1, 1, 100), (1, 1))
        self.assertEqual(level_size(BIG, 3, 100), (1, 1))
        self.assertEqual(level_size(2 ** 100 + 1, 3, 100), (2, 1))

    def test_last_levels(self):
        self.assertEqual([last_level(n, 1) for n in (1, 2, 3, 4, 5, 8, 9, 33, 64)], [0, 1, 2, 2, 3, 3, 4, 6, 6])
        self.assertEqual(last_level(3, 64), 6)
        self.assertEqual(last_level(1, 2 ** 99), 99)
        for wide, high in SIZES:
            last = last_level(wide, high)
            self.assertEqual(level_size(wide, high, last), (1, 1))
            self.assertTrue(last == 0 or level_size(wide, high, last - 1) != (1, 1))

    def test_blocks_of_levels(self):
        chance = Random(6)
        for wide, high in SIZES:
            block = pixel_block(chance, wide, high)
            expected = block
            for level in range(last_level(wide, high) + 3):
                got = level_of(block, level)
                self.assertEqual(got, expected)
                self.assertEqual((len(got[0]), len(got)), level_size(wide, high, level))
                expected = slow.half(expected)
            self.assertEqual(level_of(block, 100), level_of(block, 50))


if __name__ == "__main__":
    unittest.main()
