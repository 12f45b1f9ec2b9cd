"""Points 6 to 8: the thirteen modes."""

import unittest
from fractions import Fraction
from math import floor
from random import Random

from making import some_pixels

from easelwork.errors import BadValue
from easelwork.modes import MODES, blend, kept
from easelwork.pixels import CLEAR, is_pixel

FIRST_TEN = ("over", "multiply", "screen", "darken", "lighten", "difference", "exclusion", "hard", "overlay",
             "subtract")


def nearest(number):
    return floor(Fraction(number, 255) + Fraction(1, 2))


def shared(mode, s, d, sa, da):
    """The K of the document's table."""
    high = sa * da - 2 * (da - d) * (sa - s)
    return {
        "over": s * da,
        "multiply": s * d,
        "screen": s * da + d * sa - s * d,
        "darken": min(s * da, d * sa),
        "lighten": max(s * da, d * sa),
        "difference": abs(s * da - d * sa),
        "exclusion": s * da + d * sa - 2 * s * d,
        "hard": 2 * s * d if 2 * s <= sa else high,
        "overlay": 2 * s * d if 2 * d <= da else high,
        "subtract": max(d * sa - s * da, 0),
    }[mode]


def blend_by_the_table(mode, s, d):
    sa, da = s[3], d[3]
    pairs = list(zip(s, d))[:3]
    if mode == "plus":
        return tuple(min(255, p + q) for p, q in zip(s, d))
    if mode == "atop":
        return tuple(nearest(p * da + q * (255 - sa)) for p, q in pairs) + (da,)
    if mode == "erase":
        return tuple(nearest(q * (255 - sa)) for q in d)
    parts = [nearest(p * (255 - da) + q * (255 - sa) + shared(mode, p, q, sa, da)) for p, q in pairs]
    return tuple(parts) + (nearest(255 * sa + da * (255 - sa)),)


def kept_by_the_table(mode, s, d):
    sa, da = s[3], d[3]
    parts = []
    for p, q in list(zip(s, d))[:3]:
        if mode == "plus":
            parts.append(min(da, nearest(255 * q + p * da)))
        elif mode == "atop":
            parts.append(nearest(p * da + q * (255 - sa)))
        elif mode == "erase":
            parts.append(nearest(q * (255 - sa)))
        else:
            parts.append(nearest(q * (255 - sa) + shared(mode, p, q, sa, da)))
    return tuple(parts) + (da,)


def pairs_of_pixels():
    chance = Random(5)
    pixels = some_pixels(260, 4)
    for s in pixels[:6]:
        for d in pixels:
            yield s, d
            yield d, s
    for _ in range(2500):
        yield chance.choice(pixels), chance.choice(pixels)


class ModesTest(unittest.TestCase):
    def test_the_modes_and_their_order(self):
        self.assertEqual(MODES, FIRST_TEN + ("plus", "atop", "erase"))

    def test_every_mode_follows_its_formula_and_gives_pixels(self):
        for s, d in pairs_of_pixels():
            for mode in MODES:
                laid = blend(mode, s, d)
                stacked = kept(mode, s, d)
                self.assertEqual(laid, blend_by_the_table(mode, s, d), (mode, s, d))
                self.assertEqual(stacked, kept_by_the_table(mode, s, d), (mode, s, d))
                self.assertTrue(is_pixel(laid) and is_pixel(stacked), (mode, s, d))
                self.assertEqual(stacked[3], d[3])

    def test_the_borders_of_hard_and_overlay(self):
        # 2 * s = sa and 2 * d = da lie on the border; one more lies beyond it.
        for s in ((64, 65, 63, 128), (63, 64, 65, 127)):
            for d in ((32, 33, 31, 64), (100, 101, 99, 200), (255, 0, 128, 255)):
                for mode in ("hard", "overlay"):
                    self.assertEqual(blend(mode, s, d), blend_by_the_table(mode, s, d))
                    self.assertEqual(kept(mode, s, d), kept_by_the_table(mode, s, d))

    def test_nothing_laid_over_a_pixel_leaves_it(self):
        for d in some_pixels(300, 6):
            for mode in MODES:
                self.assertEqual((blend(mode, CLEAR, d), kept(mode, CLEAR, d)), (d, d))

    def test_a_pixel_laid_over_nothing(self):
        for s in some_pixels(300, 7):
            for mode in MODES:
                self.assertEqual(blend(mode, s, CLEAR), CLEAR if mode in ("atop", "erase") else s)
                self.assertEqual(kept(mode, s, CLEAR), CLEAR)

    def test_an_opaque_pixel_hides_what_lies_below(self):
        pixels = some_pixels(100, 8)
        for r, g, b, _ in pixels:
            for d in pixels:
                self.assertEqual(blend("over", (r, g, b, 255), d), (r, g, b, 255))

    def test_kept_over_is_atop(self):
        for s, d in pairs_of_pixels():
            self.assertEqual(kept("over", s, d), blend("atop", s, d))

    def test_seven_modes_do_not_care_for_the_order(self):
        for s, d in pairs_of_pixels():
            for mode in ("multiply", "screen", "darken", "lighten", "difference", "exclusion", "plus"):
                self.assertEqual(blend(mode, s, d), blend(mode, d, s))

    def test_some_values_by_hand(self):
        s, d = (100, 0, 0, 100), (0, 200, 0, 200)
        self.assertEqual(blend("plus", s, d), (100, 200, 0, 255))
        self.assertEqual(blend("atop", s, d), (78, 122, 0, 200))
        self.assertEqual(blend("erase", s, d), (0, 122, 0, 122))
        self.assertEqual(blend("screen", s, d), (100, 200, 0, 222))
        self.assertEqual(kept("plus", s, d), (78, 200, 0, 200))
        self.assertEqual(kept("erase", s, d), (0, 122, 0, 200))
        self.assertEqual(kept("subtract", s, d), (0, 200, 0, 200))

    def test_other_words_are_no_modes(self):
        for word in ("", "Over", "over ", "normal", "OVER", "mode"):
            for lay in (blend, kept):
                with self.assertRaises(BadValue) as caught:
                    lay(word, CLEAR, CLEAR)
                self.assertEqual(caught.exception.field, "mode")


if __name__ == "__main__":
    unittest.main()
