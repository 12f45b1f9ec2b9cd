"""Point 45: flood and alike."""

import unittest
from random import Random

from making import pixel_block, refusal

from easelwork.coverage import Coverage
from easelwork.fills import alike, flood

CLEAR = (0, 0, 0, 0)
DARK = (0, 0, 0, 255)


def block_of(*rows):
    """A block of rows of signs: # is dark, . is clear."""
    return tuple(tuple(DARK if sign == "#" else CLEAR for sign in row) for row in rows)


def fits(block, x, y, tolerance):
    return {(i, j) for j, row in enumerate(block) for i, pixel in enumerate(row)
            if all(abs(p - q) <= tolerance for p, q in zip(pixel, block[y][x]))}


def slow_flood(block, x, y, tolerance):
    free = fits(block, x, y, tolerance)
    reached = {(x, y)}
    while True:
        more = {place for place in free if any(
            (place[0] + dx, place[1] + dy) in reached for dx, dy in ((1, 0), (-1, 0), (0, 1), (0, -1)))} - reached
        if not more:
            return reached
        reached |= more


def places(cover):
    return [(x, y) for x, y, k in cover.spots if k == 255]


class FillTest(unittest.TestCase):
    def test_steps_go_straight_and_not_across(self):
        block = block_of("#.#", ".#.", "##.")
        self.assertEqual(places(flood(block, 0, 0, 0)), [(0, 0)])
        self.assertEqual(places(flood(block, 1, 1, 0)), [(1, 1), (0, 2), (1, 2)])
        self.assertEqual(places(alike(block, 1, 1, 0)), [(0, 0), (2, 0), (1, 1), (0, 2), (1, 2)])
        self.assertEqual(places(flood(block, 2, 2, 0)), [(2, 1), (2, 2)])

    def test_the_comparison_is_always_with_the_first_pixel(self):
        row = tuple((n, n, n, 255) for n in (0, 10, 20, 30))
        self.assertEqual(places(flood((row,), 0, 0, 10)), [(0, 0), (1, 0)])
        self.assertEqual(places(flood((row,), 1, 0, 10)), [(0, 0), (1, 0), (2, 0)])
        self.assertEqual(places(alike((row,), 3, 0, 9)), [(3, 0)])
        self.assertEqual(places(alike((row,), 3, 0, 255)), [(0, 0), (1, 0), (2, 0), (3, 0)])

    def test_each_of_the_four_parts_counts(self):
        for part in range(4):
            other = tuple(5 if k == part else 0 for k in range(3)) + (250 + (5 if part == 3 else 0),)
            block = (((0, 0, 0, 250), other),)
            self.assertEqual(len(places(flood(block, 0, 0, 4))), 1)
            self.assertEqual(len(places(alike(block, 0, 0, 4))), 1)
            self.assertEqual(len(places(flood(block, 0, 0, 5))), 2)
            self.assertEqual(len(places(alike(block, 0, 0, 5))), 2)

    def test_the_whole_block(self):
        block = ((CLEAR,) * 64,) * 64
        for fill in (flood, alike):
            self.assertEqual(fill(block, 63, 0, 0), Coverage.of_rect((0, 0, 64, 64), 255))
        winding = block_of(*["." * 64 if y % 2 == 0 else ("#" * 63 + "." if y % 4 == 1 else "." + "#" * 63)
                             for y in range(64)])
        self.assertEqual(len(flood(winding, 0, 0, 0).spots), 32 * 64 + 32)

    def test_the_places_of_the_document(self):
        chance = Random(1)
        for _ in range(120):
            wide, high = chance.randint(1, 7), chance.randint(1, 7)
            block = pixel_block(chance, wide, high)
            x, y = chance.randint(0, wide - 1), chance.randint(0, high - 1)
            tolerance = chance.choice((0, 1, 60, 130, 254, 255))
            self.assertEqual(set(places(alike(block, x, y, tolerance))), fits(block, x, y, tolerance))
            self.assertEqual(set(places(flood(block, x, y, tolerance))), slow_flood(block, x, y, tolerance))
            self.assertEqual({k for _, _, k in flood(block, x, y, tolerance).spots}, {255})

    def test_what_is_refused(self):
        block = block_of("#.#", "...")
        for fill in (flood, alike):
            for x, y in ((-1, 0), (3, 0), (0, -1), (0, 2), (10 ** 30, 0), (0, -10 ** 30)):
                self.assertEqual(refusal(fill, block, x, y, 256), ("BadPlace",))
            self.assertEqual(refusal(fill, (), 0, 0, 256), ("BadPlace",))
            for tolerance in (-1, 256):
                self.assertEqual(refusal(fill, block, 0, 0, tolerance), ("BadValue", "tolerance"))


if __name__ == "__main__":
    unittest.main()
