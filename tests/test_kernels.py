"""Point 14: convolved, blurred and ranked."""

import unittest
from random import Random

from making import BIG, pixel_block, some_pixels

from easelwork.errors import BadValue
from easelwork.kernels import blurred, convolved, ranked
from easelwork.pixels import is_pixel

SIZES = ((1, 1), (3, 3), (5, 2), (2, 6), (7, 7), (9, 4))
WORDS = ("least", "middle", "greatest")


def some_weights(chance, wide, high):
    return tuple(tuple(chance.choice((0, 1, -1, chance.randint(-64, 64))) for _ in range(wide)) for _ in range(high))


def window(block, i, j, wide, high):
    return [pixel for row in block[j:j + high] for pixel in row[i:i + wide]]


def moved_over(block, wide, high, made):
    """The block of made(i, j) for each place where the window fits."""
    return tuple(tuple(made(i, j) for i in range(len(block[0]) - wide + 1)) for j in range(len(block) - high + 1))


def slow_convolved(block, weights, divisor):
    high, wide = len(weights), len(weights[0])

    def made(i, j):
        parts = []
        for part in range(4):
            s = sum(weights[v][u] * block[j + v][i + u][part] for v in range(high) for u in range(wide))
            parts.append(max(0, min(255, (s + divisor // 2) // divisor)))
        return tuple(min(p, parts[3]) for p in parts)
    return moved_over(block, wide, high, made)


def slow_blurred(block, radius, times):
    size = 2 * radius + 1
    n = size * size
    for _ in range(times):
        held = block

        def made(i, j):
            totals = [sum(pixel[part] for pixel in window(held, i, j, size, size)) for part in range(4)]
            return tuple((2 * total + n) // (2 * n) for total in totals)
        block = moved_over(held, size, size, made)
    return block


def slow_ranked(block, across, down, which):
    wide, high = 2 * across + 1, 2 * down + 1
    n = wide * high
    at = {"least": 1, "middle": (n + 1) // 2, "greatest": n}[which] - 1

    def made(i, j):
        pixels = window(block, i, j, wide, high)
        return tuple(sorted(pixel[part] for pixel in pixels)[at] for part in range(4))
    return moved_over(block, wide, high, made)


def lower_block(chance, block):
    """A block with each part at most that of the given one."""
    def lowered(pixel):
        a = chance.choice((pixel[3], chance.randint(0, pixel[3])))
        return tuple(chance.choice((0, min(p, a), chance.randint(0, min(p, a)))) for p in pixel[:3]) + (a,)
    return tuple(tuple(lowered(pixel) for pixel in row) for row in block)


def never_above(low, high):
    return all(p <= q for a, b in zip(low, high) for c, d in zip(a, b) for p, q in zip(c, d))


class KernelCase(unittest.TestCase):
    def check_block(self, block, wide, high):
        self.assertIs(type(block), tuple)
        self.assertEqual(len(block), high)
        for row in block:
            self.assertIs(type(row), tuple)
            self.assertEqual(len(row), wide)
            self.assertTrue(all(is_pixel(pixel) for pixel in row))

    def check_too_small(self, call, *arguments):
        with self.assertRaises(BadValue, msg=arguments[1:]) as caught:
            call(*arguments)
        self.assertEqual(caught.exception.field, "block")


class ConvolvedTest(KernelCase):
    def test_the_sums_of_the_document(self):
        chance = Random(1)
        for turn in range(60):
            kw, kh = chance.choice(SIZES)
            block = pixel_block(chance, kw + chance.randint(0, 4), kh + chance.randint(0, 4))
            weights = some_weights(chance, kw, kh)
            divisor = chance.choice((1, 2, 3, 4, 9, 4096))
            got = convolved(block, weights, divisor)
            self.check_block(got, len(block[0]) - kw + 1, len(block) - kh + 1)
            self.assertEqual(got, slow_convolved(block, weights, divisor))

    def test_the_weights_are_not_mirrored(self):
        block = (((1, 1, 1, 1), (2, 2, 2, 2), (4, 4, 4, 4)), ((8, 8, 8, 8), (16, 16, 16, 16), (32, 32, 32, 32)))
        self.assertEqual(convolved(block, ((1, 2),), 1)[0], ((5,) * 4, (10,) * 4))
        self.assertEqual(convolved(block, ((1,), (2,)), 1), (((17,) * 4, (34,) * 4, (68,) * 4),))

    def test_halves_go_up_and_ends_are_held(self):
        block = (((0, 1, 3, 3),),)
        self.assertEqual(convolved(block, ((1,),), 2), (((0, 1, 2, 2),),))
        self.assertEqual(convolved(block, ((-1,),), 2), (((0, 0, 0, 0),),))
        self.assertEqual(convolved(block, ((1000,),), 1), (((0, 255, 255, 255),),))
        self.assertEqual(convolved(block, ((BIG,),), BIG), block)

    def test_the_parts_are_capped_at_the_new_alpha(self):
        block = (((200, 0, 10, 200), (0, 0, 0, 255)),)
        self.assertEqual(convolved(block, ((2, -1),), 1), (((145, 0, 20, 145),),))
        self.assertEqual(convolved(block, ((1, -1),), 1), (((0, 0, 0, 0),),))

    def test_equal_pixels_stay_if_the_weights_add_up_to_the_divisor(self):
        chance = Random(2)
        for pixel in some_pixels(40, 3):
            block = ((pixel,) * 5,) * 4
            for weights in (((1, 1, 1),), ((-3, 5), (2, 3)), ((-64, 2), (0, 63)), some_weights(chance, 3, 3)):
                divisor = sum(map(sum, weights))
                if divisor > 0:
                    got = convolved(block, weights, divisor)
                    self.assertEqual({p for row in got for p in row}, {pixel})

    def test_clear_blocks_stay_clear(self):
        block = (((0,) * 4,) * 4,) * 4
        self.assertEqual(convolved(block, ((64, -3), (5, 9)), 7), (((0,) * 4,) * 3,) * 3)

    def test_blocks_that_just_fit_and_that_are_too_small(self):
        weights = ((1,) * 3,) * 2
        one = (0, 0, 0, 9)
        self.check_block(convolved(((one,) * 3,) * 2, weights, 1), 1, 1)
        for block in ((), ((one,) * 2,) * 2, ((one,) * 3,), ((one,) * 2,) * 9, ((one,) * 9,)):
            self.check_too_small(convolved, block, weights, 1)
        self.check_too_small(convolved, (), ((1,),), 1)
        self.check_block(convolved(((one,) * 9,) * 9, ((1,) * 9,) * 9, 81), 1, 1)


class BlurredTest(KernelCase):
    def test_the_means_of_the_document(self):
        chance = Random(4)
        for radius, times in ((0, 1), (0, 100), (1, 1), (1, 3), (2, 2), (3, 1), (6, 1)):
            size = 2 * radius * times + 1
            block = pixel_block(chance, size + chance.randint(0, 4), size + chance.randint(0, 3))
            got = blurred(block, radius, times)
            self.check_block(got, len(block[0]) - size + 1, len(block) - size + 1)
            self.assertEqual(got, slow_blurred(block, radius, times))

    def test_each_step_is_rounded(self):
        row = ((0, 0, 0, 0), (0, 0, 0, 0), (0, 0, 0, 4), (0, 0, 0, 0), (0, 0, 0, 0))
        block = (row,) * 5
        self.assertEqual(blurred(block, 1, 1)[0], ((0, 0, 0, 1),) * 3)
        self.assertEqual(blurred(block, 1, 2), (((0, 0, 0, 1),),))

    def test_equal_pixels_stay(self):
        for pixel in some_pixels(30, 5):
            self.assertEqual(blurred(((pixel,) * 8,) * 7, 1, 3), ((pixel,) * 2,))

    def test_blocks_that_just_fit_and_that_are_too_small(self):
        one = (1, 1, 1, 1)
        for radius, times in ((1, 1), (1, 2), (2, 3)):
            size = 2 * radius * times + 1
            self.assertEqual(blurred(((one,) * size,) * size, radius, times), ((one,),))
            self.check_too_small(blurred, ((one,) * (size - 1),) * size, radius, times)
            self.check_too_small(blurred, ((one,) * size,) * (size - 1), radius, times)
        for radius, times in ((0, 1), (1, 1), (BIG, 100)):
            self.check_too_small(blurred, (), radius, times)
        self.check_too_small(blurred, ((one,),), BIG, 1)

    def test_a_lower_block_has_lower_means(self):
        chance = Random(6)
        for _ in range(40):
            block = pixel_block(chance, 7, 6)
            self.assertTrue(never_above(blurred(lower_block(chance, block), 1, 2), blurred(block, 1, 2)))


class RankedTest(KernelCase):
    def test_the_ranks_of_the_document(self):
        chance = Random(7)
        for across, down in ((0, 0), (1, 0), (0, 1), (1, 1), (3, 0), (0, 3), (2, 1), (1, 3), (3, 3)):
            block = pixel_block(chance, 2 * across + 1 + chance.randint(0, 4), 2 * down + 1 + chance.randint(0, 4))
            for which in WORDS:
                got = ranked(block, across, down, which)
                self.check_block(got, len(block[0]) - 2 * across, len(block) - 2 * down)
                self.assertEqual(got, slow_ranked(block, across, down, which))

    def test_by_hand(self):
        row = ((0, 5, 1, 9), (2, 0, 4, 4), (1, 1, 1, 1))
        self.assertEqual(ranked((row,), 1, 0, "least"), (((0, 0, 1, 1),),))
        self.assertEqual(ranked((row,), 1, 0, "middle"), (((1, 1, 1, 4),),))
        self.assertEqual(ranked((row,), 1, 0, "greatest"), (((2, 5, 4, 9),),))

    def test_equal_pixels_stay(self):
        for pixel in some_pixels(30, 8):
            for which in WORDS:
                self.assertEqual(ranked(((pixel,) * 5,) * 4, 1, 1, which), ((pixel,) * 3,) * 2)

    def test_blocks_that_just_fit_and_that_are_too_small(self):
        one = (1, 1, 1, 1)
        for which in WORDS:
            self.assertEqual(ranked(((one,) * 5,) * 3, 2, 1, which), ((one,),))
            for block in ((), ((one,) * 4,) * 3, ((one,) * 5,) * 2, ((one,) * 9,), ((one,),) * 9):
                self.check_too_small(ranked, block, 2, 1, which)
            self.check_too_small(ranked, (), 0, 0, which)
            self.check_too_small(ranked, ((one,),), BIG, 0, which)

    def test_a_lower_block_has_lower_ranks(self):
        chance = Random(9)
        for _ in range(30):
            block = pixel_block(chance, 6, 5)
            low = lower_block(chance, block)
            for which in WORDS:
                self.assertTrue(never_above(ranked(low, 1, 1, which), ranked(block, 1, 1, which)))

    def test_least_and_greatest_may_be_taken_in_steps(self):
        chance = Random(10)
        for _ in range(20):
            block = pixel_block(chance, 12, 11)
            for which in ("least", "greatest"):
                for across, down in ((1, 2), (3, 1), (2, 2)):
                    self.assertEqual(ranked(ranked(block, across, 0, which), 0, down, which),
                                     ranked(block, across, down, which))
                a, b, c, d = [chance.randint(0, 2) for _ in range(4)]
                self.assertEqual(ranked(ranked(block, a, b, which), c, d, which),
                                 ranked(block, a + c, b + d, which))


if __name__ == "__main__":
    unittest.main()
