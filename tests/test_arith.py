"""Points 4 and 8: the six functions of integers."""

import unittest
from fractions import Fraction
from math import floor
from random import Random

from making import BIG

from easelwork.arith import hold, mean, mix, mul, near, straight

NUMBERS = list(range(-600, 601)) + [s * (BIG + k) for s in (-1, 1) for k in range(-3, 4)]


def nearest(fraction):
    """The nearest integer; a tie goes up."""
    return floor(fraction + Fraction(1, 2))


class ArithTest(unittest.TestCase):
    def test_near_is_the_nearest_integer_to_the_part_of_255(self):
        for n in NUMBERS:
            self.assertEqual(near(n), nearest(Fraction(n, 255)))

    def test_near_turns_between_127_and_128(self):
        self.assertEqual([near(n) for n in (-128, -127, 0, 127, 128, 382, 383)], [-1, 0, 0, 0, 1, 1, 2])

    def test_near_moves_with_whole_numbers_and_in_single_steps(self):
        chance = Random(1)
        for _ in range(3000):
            n = chance.choice(NUMBERS)
            m = chance.choice(NUMBERS)
            self.assertEqual(near(255 * n + m), n + near(m))
            self.assertIn(near(m + 1), (near(m), near(m) + 1))

    def test_mul(self):
        self.assertEqual([mul(255, 255), mul(128, 128), mul(1, 127), mul(1, 128), mul(-3, 100)], [255, 64, 0, 1, -1])
        for x in NUMBERS:
            self.assertEqual(mul(x, 255), x)
            self.assertEqual(mul(255, x), x)
            self.assertEqual(mul(x, 0), 0)
            self.assertEqual(mul(x, x + 7), nearest(Fraction(x * (x + 7), 255)))

    def test_mix_goes_from_the_first_to_the_second(self):
        chance = Random(2)
        for _ in range(4000):
            d = chance.choice(NUMBERS)
            f = chance.choice(NUMBERS)
            k = chance.choice((0, 1, 127, 128, 254, 255, chance.randint(0, 255)))
            got = mix(d, f, k)
            self.assertEqual(got, nearest(Fraction(d * (255 - k) + f * k, 255)))
            self.assertTrue(min(d, f) <= got <= max(d, f))
            self.assertEqual((mix(d, f, 0), mix(d, f, 255), mix(d, d, k)), (d, f, d))

    def test_hold(self):
        self.assertEqual([hold(v, -2, 3) for v in (-9, -3, -2, 0, 3, 4, 9)], [-2, -2, -2, 0, 3, 3, 3])
        self.assertEqual((hold(5, 4, 4), hold(3, 4, 4), hold(4, 4, 4)), (4, 4, 4))
        self.assertEqual((hold(-BIG, 0, 255), hold(BIG, 0, 255), hold(BIG, 0, BIG + 1)), (0, 255, BIG))

    def test_straight_of_every_pixel_leads_back(self):
        for a in range(256):
            for c in range(a + 1):
                self.assertEqual(mul(straight(c, a), a), c)

    def test_straight_is_the_nearest_integer_and_a_tie_goes_up(self):
        for a in (1, 2, 3, 4, 34, 102, 255, BIG):
            for c in (0, 1, 2, 17, 51, a - 1, a, -1, -7, BIG + 1):
                self.assertEqual(straight(c, a), nearest(Fraction(255 * c, a)))
        self.assertEqual((straight(1, 2), straight(-1, 2), straight(1, 34)), (128, -127, 8))

    def test_straight_without_alpha_is_nothing(self):
        self.assertEqual([straight(c, a) for c in (-5, 0, 5, BIG) for a in (0, -1, -BIG)], [0] * 12)

    def test_mean_is_the_nearest_integer_and_a_tie_goes_up(self):
        self.assertEqual([mean(t, 2) for t in (-3, -2, -1, 0, 1, 2, 3)], [-1, -1, 0, 0, 1, 1, 2])
        for count in (1, 2, 3, 4, 9, 289, BIG):
            for total in (0, 1, 5, -5, 13, 14, 10000, BIG - 1, -BIG):
                self.assertEqual(mean(total, count), nearest(Fraction(total, count)))


if __name__ == "__main__":
    unittest.main()
