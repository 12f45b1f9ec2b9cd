"""Point 12: coverages."""

import unittest
from random import Random

from making import BIG, pixel_block, some_spots

from easelwork.coverage import Coverage

RECTS = ((0, 0, 1, 1), (-3, 2, 4, 5), (0, 0, 12, 1), (5, -4, 6, 9), (-2, -2, 4, 4))


def inside(rect):
    x0, y0, x1, y1 = rect
    return [(x, y) for y in range(y0, y1) for x in range(x0, x1)]


def values(spots):
    return {(x, y): k for x, y, k in spots}


def spots_of(table):
    """The plain form of a dict from places to values."""
    return tuple((x, y, table[x, y]) for y, x in sorted((y, x) for x, y in table) if table[x, y] > 0)


def clamped(v, low, high):
    return max(low, min(high, v))


def pairs_of_coverages(count, seed):
    """Coverages and a rect; some of their spots lie outside the rect."""
    chance = Random(seed)
    for turn in range(count):
        rect = RECTS[turn % len(RECTS)]
        room = (rect[0] - 2, rect[1] - 2, rect[2] + 2, rect[3] + 2)
        yield (rect, Coverage(some_spots(chance, room, chance.randint(0, 9))),
               Coverage(some_spots(chance, room, chance.randint(0, 9))))


def within(cover, rect):
    return Coverage([spot for spot in cover.spots
                     if rect[0] <= spot[0] < rect[2] and rect[1] <= spot[1] < rect[3]])


def under(a, b):
    """True if no value of a is greater than that of b."""
    return all(k <= b.at(x, y) for x, y, k in a.spots)


class PlainTest(unittest.TestCase):
    def test_spots_are_in_order_and_without_zeros(self):
        chance = Random(1)
        for share in (0, 3, 10):
            spots = some_spots(chance, (-3, -3, 4, 4), share)
            cover = Coverage(spots)
            self.assertEqual(cover.spots, spots_of(values(spots)))
            self.assertIs(type(cover.spots), tuple)
            self.assertEqual(Coverage(tuple(spots)).spots, cover.spots)

    def test_ends_of_the_values(self):
        self.assertEqual(Coverage([(1, 0, 255), (0, 1, 1), (2, 0, 0)]).spots, ((1, 0, 255), (0, 1, 1)))
        self.assertEqual(Coverage(()).spots, ())

    def test_a_list_that_is_passed_is_copied(self):
        spots = [(5, 5, 5), (1, 1, 1)]
        cover = Coverage(spots)
        self.assertEqual(spots, [(5, 5, 5), (1, 1, 1)])
        spots.append((0, 0, 9))
        spots[0] = (7, 7, 7)
        self.assertEqual((cover.spots, cover.at(0, 0), cover.at(5, 5)), (((1, 1, 1), (5, 5, 5)), 0, 5))

    def test_at(self):
        spots = some_spots(Random(2), (-3, -3, 4, 4), 6)
        cover = Coverage(spots)
        table = values(spots)
        for x in range(-5, 6):
            for y in range(-5, 6):
                self.assertEqual(cover.at(x, y), table.get((x, y), 0))

    def test_box_and_bool(self):
        self.assertIsNone(Coverage([]).box())
        self.assertIsNone(Coverage([(3, 3, 0)]).box())
        self.assertIs(bool(Coverage([(3, 3, 0)])), False)
        self.assertIs(bool(Coverage([(3, 3, 1)])), True)
        self.assertEqual(Coverage([(3, -2, 1), (-BIG, 0, 5), (9, 9, 0)]).box(), (-BIG, -2, 4, 1))

    def test_equality(self):
        a = Coverage([(1, 2, 3), (4, 5, 6), (7, 7, 0)])
        self.assertIs(a == Coverage([(4, 5, 6), (1, 2, 3)]), True)
        self.assertIs(a != Coverage([(4, 5, 6), (1, 2, 3)]), False)
        for other in (Coverage([(1, 2, 3)]), Coverage([(1, 2, 3), (4, 5, 7)]), a.spots, None, 0, "a"):
            self.assertIs(a == other, False)
        self.assertIs(Coverage([]) == (), False)

    def test_of_rect(self):
        for k in (0, 1, 128, 255):
            self.assertEqual(Coverage.of_rect((-1, 3, 2, 5), k),
                             Coverage([(x, y, k) for x, y in inside((-1, 3, 2, 5))]))
        self.assertEqual(len(Coverage.of_rect((BIG, -BIG, BIG + 100, 100 - BIG), 7).spots), 10000)

    def test_of_alpha(self):
        chance = Random(3)
        for wide, high in ((1, 1), (4, 1), (1, 3), (5, 4)):
            block = pixel_block(chance, wide, high)
            wanted = {(BIG + i, -7 + j): block[j][i][3] for j in range(high) for i in range(wide)}
            self.assertEqual(Coverage.of_alpha(block, BIG, -7).spots, spots_of(wanted))
        self.assertEqual(Coverage.of_alpha((), 3, 4).spots, ())


class OperatorTest(unittest.TestCase):
    def test_operators_place_by_place(self):
        for _, a, b in pairs_of_coverages(60, 4):
            places = set(values(a.spots)) | set(values(b.spots))
            for got, rule in ((a | b, max), (a & b, min), (a - b, lambda p, q: min(p, 255 - q))):
                wanted = {(x, y): rule(a.at(x, y), b.at(x, y)) for x, y in places}
                self.assertEqual(got.spots, spots_of(wanted))
                for (x, y), k in wanted.items():
                    self.assertEqual(got.at(x, y), k)

    def test_operators_far_apart(self):
        a = Coverage([(-BIG, BIG, 9), (0, 0, 100)])
        b = Coverage([(BIG, -BIG, 8), (0, 0, 200)])
        self.assertEqual((a | b).spots, ((BIG, -BIG, 8), (0, 0, 200), (-BIG, BIG, 9)))
        self.assertEqual((a & b).spots, ((0, 0, 100),))
        self.assertEqual((a - b).spots, ((0, 0, 55), (-BIG, BIG, 9)))

    def test_operands_stay_as_they_were(self):
        a, b = Coverage([(0, 0, 5), (1, 1, 6)]), Coverage([(1, 1, 250), (2, 2, 7)])
        a | b, a & b, a - b, a.turned((0, 0, 2, 2)), a.grown(1, (0, 0, 2, 2)), a.hardened(6)
        self.assertEqual((a.spots, b.spots), (((0, 0, 5), (1, 1, 6)), ((1, 1, 250), (2, 2, 7))))

    def test_hardened(self):
        cover = Coverage([(0, 0, 1), (1, 0, 127), (2, 0, 128), (3, 0, 255), (BIG, BIG, 200)])
        self.assertEqual(cover.hardened(1), Coverage([(x, y, 255) for x, y, _ in cover.spots]))
        self.assertEqual(cover.hardened(128).spots, ((2, 0, 255), (3, 0, 255), (BIG, BIG, 255)))
        self.assertEqual(cover.hardened(129).spots, ((3, 0, 255), (BIG, BIG, 255)))
        self.assertEqual(cover.hardened(255).spots, ((3, 0, 255),))


class AroundTest(unittest.TestCase):
    def test_turned(self):
        for rect, a, _ in pairs_of_coverages(20, 5):
            wanted = {(x, y): 255 - a.at(x, y) for x, y in inside(rect)}
            self.assertEqual(a.turned(rect).spots, spots_of(wanted))

    def test_grown_and_shrunk(self):
        for turn, (rect, a, _) in enumerate(pairs_of_coverages(40, 6)):
            radius = (0, 1, 2, 3, 8)[turn % 5]
            big, small = {}, {}
            for x, y in inside(rect):
                near = [a.at(u, v) for u, v in inside(rect) if abs(u - x) <= radius and abs(v - y) <= radius]
                big[x, y], small[x, y] = max(near), min(near)
            self.assertEqual(a.grown(radius, rect).spots, spots_of(big))
            self.assertEqual(a.shrunk(radius, rect).spots, spots_of(small))

    def test_feathered(self):
        for turn, (rect, a, _) in enumerate(pairs_of_coverages(30, 7)):
            radius = (0, 1, 2, 8, 5, 3)[turn % 6]
            x0, y0, x1, y1 = rect
            steps = range(-radius, radius + 1)
            wanted = {}
            for x, y in inside(rect):
                total = sum(a.at(clamped(x + i, x0, x1 - 1), clamped(y + j, y0, y1 - 1)) for i in steps for j in steps)
                count = (2 * radius + 1) ** 2
                wanted[x, y] = (2 * total + count) // (2 * count)
            self.assertEqual(a.feathered(radius, rect).spots, spots_of(wanted))

    def test_all_of_this_far_away(self):
        chance = Random(8)
        near = Coverage(some_spots(chance, (0, 0, 5, 4), 7))
        far = Coverage([(x + BIG, y - BIG, k) for x, y, k in near.spots])
        rect, far_rect = (0, 0, 5, 4), (BIG, -BIG, BIG + 5, 4 - BIG)
        for a, b in ((near.turned(rect), far.turned(far_rect)), (near.grown(2, rect), far.grown(2, far_rect)),
                     (near.shrunk(1, rect), far.shrunk(1, far_rect)),
                     (near.feathered(3, rect), far.feathered(3, far_rect))):
            self.assertEqual(tuple((x + BIG, y - BIG, k) for x, y, k in a.spots), b.spots)

    def test_the_largest_rects(self):
        for rect in ((0, 0, 100, 100), (0, 0, 10000, 1), (0, 0, 1, 10000)):
            full = Coverage.of_rect(rect, 255)
            self.assertEqual((full.feathered(8, rect), full.shrunk(8, rect), full.turned(rect)),
                             (full, full, Coverage(())))
            self.assertEqual(Coverage([(0, 0, 9)]).grown(8, rect).at(min(8, rect[2] - 1), min(8, rect[3] - 1)), 9)


class GuaranteeTest(unittest.TestCase):
    def test_turning(self):
        for rect, a, b in pairs_of_coverages(40, 9):
            a, b = within(a, rect), within(b, rect)
            self.assertEqual(a.turned(rect).turned(rect), a)
            self.assertEqual((a | b).turned(rect), a.turned(rect) & b.turned(rect))
            self.assertEqual(a - b, a & b.turned(rect))

    def test_shrinking_is_growing_of_the_turned(self):
        for turn, (rect, a, b) in enumerate(pairs_of_coverages(40, 10)):
            a, b = within(a, rect), within(b, rect)
            r = (0, 1, 2, 8)[turn % 4]
            self.assertEqual(a.shrunk(r, rect), a.turned(rect).grown(r, rect).turned(rect))
            for other in (b, a, a.grown(r, rect), a | b, Coverage.of_rect(rect, 255)):
                self.assertIs(under(a.grown(r, rect), other), under(a, other.shrunk(r, rect)))

    def test_growing_twice(self):
        for rect, a, _ in pairs_of_coverages(20, 11):
            for r, s in ((0, 3), (1, 1), (2, 5), (4, 4), (7, 1)):
                self.assertEqual(a.grown(r, rect).grown(s, rect), a.grown(r + s, rect))

    def test_feathering_keeps_the_order(self):
        for rect, a, b in pairs_of_coverages(30, 12):
            a, b = within(a, rect), within(b, rect)
            for r in (0, 1, 4):
                self.assertTrue(under((a & b).feathered(r, rect), a.feathered(r, rect)))
                self.assertTrue(under(a.feathered(r, rect), (a | b).feathered(r, rect)))


if __name__ == "__main__":
    unittest.main()
