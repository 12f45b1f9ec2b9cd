"""Views: point 39."""

import unittest
from random import Random

import growing
import slow
from making import BIG, refusal

from easelwork.documents import Document
from easelwork.layers import layer
from easelwork.levels import last_level
from easelwork.plain import whole
from easelwork.regions import Region
from easelwork.views import BACK, check_view, screen_rects, shown, source, view_level

RANGES = ((1, 64), (1, 64), (1, 16), (1, 16), (-4096, 4096), (-4096, 4096))


def some_view(chance, most=9, offset=12):
    return (chance.randint(1, most), chance.randint(1, most), chance.choice((1, 1, 2, 3, 7, 16)),
            chance.choice((1, 1, 2, 3, 5, 8, 16)), chance.randint(-offset, offset), chance.randint(-offset, offset))


class CheckTest(unittest.TestCase):
    def test_ranges(self):
        view = (4, 4, 1, 1, 0, 0)
        self.assertIsNone(check_view(view))
        for at, (low, high) in enumerate(RANGES):
            for value in (low, high):
                self.assertIsNone(check_view(view[:at] + (value,) + view[at + 1:]))
            for value in (low - 1, high + 1, -BIG, BIG):
                self.assertEqual(refusal(check_view, view[:at] + (value,) + view[at + 1:]), ("BadValue", "view"))

    def test_counts(self):
        for view in ((), (1,) * 5, (1,) * 7):
            self.assertEqual(refusal(check_view, view), ("BadValue", "view"))

    def test_back(self):
        self.assertEqual(BACK, (96, 96, 96, 255))


class LevelTest(unittest.TestCase):
    def test_levels(self):
        for num, den, level in ((1, 1, 0), (1, 2, 1), (1, 3, 1), (1, 4, 2), (1, 16, 4), (2, 16, 3), (3, 16, 2), (16, 16, 0),
                                (16, 1, 0), (9, 16, 0), (8, 16, 1), (5, 3, 0)):
            self.assertEqual(view_level(64, 64, (1, 1, num, den, 0, 0)), level)

    def test_small_canvases(self):
        self.assertEqual([view_level(wide, 1, (1, 1, 1, 16, 0, 0)) for wide in (1, 2, 3, 4, 5, 9, 17)],
                         [0, 1, 2, 2, 3, 4, 4])
        self.assertEqual(view_level(1, 5, (1, 1, 1, 16, 0, 0)), 3)

    def test_against_the_words(self):
        chance = Random(1)
        for _ in range(500):
            view = some_view(chance)
            wide, high = chance.randint(1, 64), chance.randint(1, 64)
            fits = [k for k in range(last_level(wide, high) + 1) if view[2] * 2 ** k <= view[3]]
            self.assertEqual(view_level(wide, high, view), max(fits + [0]))


class SourceTest(unittest.TestCase):
    def test_places(self):
        self.assertEqual(source((4, 4, 1, 1, 0, 0), 0, 3, 2), (3, 2))
        self.assertEqual(source((4, 4, 2, 1, -1, 0), 0, 0, 3), (-1, 1))
        self.assertEqual(source((4, 4, 3, 2, 0, -4), 0, 1, 1), (0, -2))
        self.assertEqual(source((4, 4, 1, 16, 4096, -4096), 4, 1, 1), (4097, -4095))
        self.assertEqual(source((4, 4, 16, 16, 0, 0), 0, 5, 6), (5, 6))

    def test_any_integers(self):
        view = (4, 4, 3, 5, 1, 2)
        self.assertEqual(source(view, 100, BIG, -BIG), ((BIG + 1) * 5 // (3 * 2 ** 100), (2 - BIG) * 5 // (3 * 2 ** 100)))
        self.assertEqual(source(view, 0, BIG, -BIG), ((BIG + 1) * 5 // 3, (2 - BIG) * 5 // 3))


class ScreenTest(unittest.TestCase):
    def test_the_places_of_the_screen_whose_sources_are_in_a_region(self):
        for seed in range(150):
            chance = Random(seed)
            view = some_view(chance)
            level = chance.randint(0, 3)
            region = Region.of([(x, y, x + chance.randint(1, 4), y + chance.randint(1, 3))
                                for x, y in [(chance.randint(-9, 9), chance.randint(-9, 9)) for _ in range(3)]])
            made = Region.of(screen_rects(view, level, region))
            for b in range(-2, view[1] + 2):
                for a in range(-2, view[0] + 2):
                    on = 0 <= a < view[0] and 0 <= b < view[1]
                    self.assertEqual((a, b) in made, on and source(view, level, a, b) in region)


class ShownTest(unittest.TestCase):
    def test_pixels(self):
        dots = ((0, 0, (1, 1, 1, 1)), (1, 0, (2, 2, 2, 2)), (1, 1, (4, 4, 4, 4)))
        document = Document(2, 2, layer(0, "group", layer(1, "paint", spots=dots)))
        clear, one, two, four = (0, 0, 0, 0), (1,) * 4, (2,) * 4, (4,) * 4
        self.assertEqual(shown(document, (3, 2, 1, 1, 0, 0)), ((one, two, BACK), (clear, four, BACK)))
        self.assertEqual(shown(document, (3, 2, 1, 1, -1, 1)), ((BACK, clear, four), (BACK, BACK, BACK)))
        self.assertEqual(shown(document, (4, 1, 2, 1, 0, 0)), ((one, one, two, two),))
        self.assertEqual(shown(document, (2, 1, 1, 2, 0, 0)), (((2, 2, 2, 2), BACK),))
        self.assertEqual(shown(document, (1, 1, 1, 16, 4096, 4096)), ((BACK,),))

    def test_against_the_words(self):
        for seed in range(60):
            chance = Random(seed)
            document = growing.document(chance, chance.randint(1, 7), chance.randint(1, 7), deep=1)
            view = some_view(chance)
            level = view_level(document.wide, document.high, view)
            block = slow.plane(document.root).block(0, 0, document.wide, document.high)
            for _ in range(level):
                block = slow.half(block)
            self.assertEqual(block, whole(document, level))
            image = shown(document, view)
            self.assertEqual((len(image), {len(row) for row in image}), (view[1], {view[0]}))
            for b, row in enumerate(image):
                for a, pixel in enumerate(row):
                    x = (a + view[4]) * view[3] // (view[2] * 2 ** level)
                    y = (b + view[5]) * view[3] // (view[2] * 2 ** level)
                    on = 0 <= x < len(block[0]) and 0 <= y < len(block)
                    self.assertEqual(pixel, block[y][x] if on else BACK)


if __name__ == "__main__":
    unittest.main()
