"""Points 10 and 11: what regions hold, and their one form."""

import unittest
from random import Random
from types import GeneratorType

from making import BIG, places_of, some_rects

from easelwork.errors import EndlessRegion
from easelwork.regions import Region

EMPTY = Region.empty()
ALL = Region.everything()


def region_of(places):
    return Region.of([(x, y, x + 1, y + 1) for x, y in places])


def some_regions(count, seed, low=-5, high=6):
    chance = Random(seed)
    out = [EMPTY, Region.of([(0, 0, 1, 1)]), Region.of([(low, low, high, high)])]
    while len(out) < count:
        out.append(Region.of(some_rects(chance, chance.randint(0, 5), low, high)))
    return out


class RegionCase(unittest.TestCase):
    def check_form(self, region):
        """The three rules of the one form."""
        self.assertIs(type(region.bands), tuple)
        before = None
        for band in region.bands:
            self.assertIs(type(band), tuple)
            y0, y1, runs = band
            self.assertIs(type(runs), tuple)
            self.assertLess(y0, y1)
            self.assertTrue(runs)
            for x0, x1 in runs:
                self.assertLess(x0, x1)
            for first, second in zip(runs, runs[1:]):
                self.assertLess(first[1], second[0])
            if before:
                self.assertLessEqual(before[1], y0)
                if before[1] == y0:
                    self.assertNotEqual(before[2], runs)
            before = band

    def check_places(self, region, places):
        self.check_form(region)
        self.assertIs(region.endless, False)
        self.assertEqual(list(region.places()), sorted(places, key=lambda place: (place[1], place[0])))
        self.assertEqual(region, region_of(places))


class FormTest(RegionCase):
    def test_of_holds_the_places_of_all_rects(self):
        chance = Random(1)
        for count in (0, 1, 2, 3, 4, 6, 9):
            for _ in range(40):
                rects = some_rects(chance, count, -6, 7)
                self.check_places(Region.of(rects), places_of(rects))

    def test_many_rects_in_one_row(self):
        chance = Random(17)
        for _ in range(200):
            rects = [(x0, 3, x1, 5) for x0, _, x1, _ in some_rects(chance, chance.randint(1, 8), -9, 20)]
            self.check_places(Region.of(rects), places_of(rects))
        self.assertEqual(Region.of([(0, 0, 1, 1), (3, 0, 9, 1), (4, 0, 5, 1)]).rects(), ((0, 0, 1, 1), (3, 0, 9, 1)))

    def test_the_order_of_the_rects_plays_no_part(self):
        chance = Random(2)
        for _ in range(100):
            rects = some_rects(chance, 5, -6, 7)
            region = Region.of(tuple(rects))
            chance.shuffle(rects)
            self.assertEqual(Region.of(rects + rects[:2]).bands, region.bands)

    def test_rects_that_touch_become_one(self):
        self.assertEqual(Region.of([(0, 0, 2, 1), (2, 0, 3, 1)]).bands, ((0, 1, ((0, 3),)),))
        self.assertEqual(Region.of([(0, 0, 2, 1), (0, 1, 2, 4)]).bands, ((0, 4, ((0, 2),)),))

    def test_bands_that_touch_stay_apart_if_their_runs_differ(self):
        self.assertEqual(Region.of([(0, 0, 2, 1), (0, 1, 3, 4)]).bands, ((0, 1, ((0, 2),)), (1, 4, ((0, 3),))))
        self.assertEqual(Region.of([(0, 0, 2, 1), (0, 2, 2, 3)]).bands, ((0, 1, ((0, 2),)), (2, 3, ((0, 2),))))

    def test_a_rect_with_a_hole(self):
        frame = Region.of([(0, 0, 3, 1), (0, 0, 1, 3), (2, 0, 3, 3), (0, 2, 3, 3)])
        self.assertEqual(frame.bands, ((0, 1, ((0, 3),)), (1, 2, ((0, 1), (2, 3))), (2, 3, ((0, 3),))))
        self.assertEqual(frame.rects(), ((0, 0, 3, 1), (0, 1, 1, 2), (2, 1, 3, 2), (0, 2, 3, 3)))

    def test_the_empty_region_and_everything(self):
        for region in (EMPTY, Region.of(()), Region.of([])):
            self.assertEqual((region.endless, region.bands), (False, ()))
        self.assertEqual((ALL.endless, ALL.bands), (True, ()))
        self.assertFalse(EMPTY == ALL)

    def test_a_list_that_is_passed_is_copied(self):
        rects = [(3, 3, 5, 5), (0, 0, 2, 2)]
        region = Region.of(rects)
        self.assertEqual(rects, [(3, 3, 5, 5), (0, 0, 2, 2)])
        rects.append((9, 9, 10, 10))
        rects[0] = (7, 7, 8, 8)
        self.assertEqual(region, Region.of([(0, 0, 2, 2), (3, 3, 5, 5)]))


class OperatorTest(RegionCase):
    def test_operators_over_many_pairs(self):
        regions = some_regions(60, 3)
        sets = [set(region.places()) for region in regions]
        for a, p in zip(regions, sets):
            for b, q in zip(regions, sets):
                for got, places in ((a | b, p | q), (a & b, p & q), (a - b, p - q)):
                    self.check_places(got, places)
                    self.assertLessEqual(len(got.bands), 2 * (len(a.bands) + len(b.bands)) + 1)
                self.assertIs(a == b, p == q)
                self.assertIs(a != b, p != q)

    def test_operators_with_everything(self):
        for region in some_regions(10, 4):
            self.assertEqual((region | ALL, ALL | region), (ALL, ALL))
            self.assertEqual((region & ALL, ALL & region), (region, region))
            self.assertEqual(region - ALL, EMPTY)
            if region:
                with self.assertRaises(EndlessRegion):
                    ALL - region
        self.assertEqual((ALL | ALL, ALL & ALL, ALL - ALL, ALL - EMPTY), (ALL, ALL, EMPTY, ALL))
        self.assertEqual((ALL | EMPTY, EMPTY | ALL, ALL & EMPTY, EMPTY & ALL, EMPTY - ALL),
                         (ALL, ALL, EMPTY, EMPTY, EMPTY))

    def test_operands_stay_as_they_were(self):
        a, b = Region.of([(0, 0, 4, 4)]), Region.of([(2, 2, 6, 6)])
        bands = (a.bands, b.bands)
        a | b, a & b, a - b, a.grown(1, 1, 1, 1), a.moved(1, 1), a.halved(), a.doubled()
        self.assertEqual((a.bands, b.bands), bands)

    def test_in(self):
        for region in some_regions(40, 5):
            places = set(region.places())
            for x in range(-7, 8):
                for y in range(-7, 8):
                    self.assertIs((x, y) in region, (x, y) in places)
        self.assertIs((BIG, -BIG) in ALL, True)
        self.assertIs((0, 0) in EMPTY, False)

    def test_bool(self):
        self.assertIs(bool(EMPTY), False)
        self.assertIs(bool(ALL), True)
        self.assertIs(bool(Region.of([(BIG, 0, BIG + 1, 1)])), True)

    def test_a_region_equals_no_value_of_another_class(self):
        for other in (None, 0, (), [], "", True, object()):
            self.assertIs(EMPTY == other, False)
            self.assertIs(ALL == other, False)
            self.assertIs(EMPTY != other, True)


class ChangeTest(RegionCase):
    def test_grown(self):
        chance = Random(6)
        for region in some_regions(60, 7):
            left, up, right, down = [chance.choice((0, 0, 1, 2, 5)) for _ in range(4)]
            wanted = {(x + i, y + j) for x, y in region.places()
                      for i in range(-left, right + 1) for j in range(-up, down + 1)}
            self.check_places(region.grown(left, up, right, down), wanted)

    def test_growing_twice_is_growing_by_the_sums(self):
        chance = Random(8)
        for region in some_regions(60, 9):
            a, b = [[chance.randint(0, 3) for _ in range(4)] for _ in range(2)]
            sums = [p + q for p, q in zip(a, b)]
            self.assertEqual(region.grown(*a).grown(*b), region.grown(*sums))
            self.assertEqual(region.grown(0, 0, 0, 0), region)

    def test_growing_and_looking_back(self):
        for region in some_regions(12, 10):
            grown = region.grown(1, 0, 2, 3)
            for x in range(-8, 9):
                for y in range(-8, 9):
                    back = Region.of([(x, y, x + 1, y + 1)]).grown(2, 3, 1, 0)
                    self.assertIs((x, y) in grown, bool(back & region))

    def test_moved(self):
        for region in some_regions(40, 11):
            self.check_places(region.moved(-3, 8), {(x - 3, y + 8) for x, y in region.places()})
            self.assertEqual(region.moved(BIG, -BIG).moved(-BIG, BIG), region)

    def test_halved_and_doubled(self):
        for region in some_regions(80, 12):
            half = region.halved()
            self.check_places(half, {(x // 2, y // 2) for x, y in region.places()})
            double = region.doubled()
            self.check_places(
                double, {(2 * x + i, 2 * y + j) for x, y in region.places() for i in (0, 1) for j in (0, 1)})
            self.assertEqual(region - half.doubled(), EMPTY)
            self.assertEqual(double.halved(), region)

    def test_halving_joins_what_falls_together(self):
        self.assertEqual(Region.of([(0, 0, 1, 1), (1, 1, 2, 2), (3, 0, 4, 1)]).halved().rects(), ((0, 0, 2, 1),))
        self.assertEqual(Region.of([(-1, -1, 0, 0)]).halved().rects(), ((-1, -1, 0, 0),))

    def test_everything_stays_everything(self):
        for got in (ALL.grown(1, 2, 3, 4), ALL.moved(5, 6), ALL.halved(), ALL.doubled()):
            self.assertEqual(got, ALL)
            self.assertEqual(got.bands, ())
        for got in (EMPTY.grown(1, 2, 3, 4), EMPTY.moved(5, 6), EMPTY.halved(), EMPTY.doubled()):
            self.assertEqual(got, EMPTY)


class QuestionTest(RegionCase):
    def test_meets(self):
        chance = Random(13)
        for region in some_regions(40, 14):
            places = set(region.places())
            for rect in some_rects(chance, 12, -8, 9):
                self.assertIs(region.meets(rect), bool(places & places_of([rect])))
        self.assertIs(ALL.meets((BIG, BIG, BIG + 1, BIG + 1)), True)
        self.assertIs(EMPTY.meets((-BIG, -BIG, BIG, BIG)), False)

    def test_a_rect_that_touches_does_not_meet(self):
        region = Region.of([(0, 0, 2, 2)])
        for rect in ((2, 0, 3, 2), (-1, 0, 0, 2), (0, 2, 2, 3), (0, -1, 2, 0)):
            self.assertIs(region.meets(rect), False)
        self.assertIs(region.meets((1, 1, 5, 5)), True)

    def test_box(self):
        self.assertIsNone(EMPTY.box())
        for region in some_regions(60, 15):
            if region:
                xs = [x for x, _ in region.places()]
                ys = [y for _, y in region.places()]
                self.assertEqual(region.box(), (min(xs), min(ys), max(xs) + 1, max(ys) + 1))

    def test_rects(self):
        self.assertEqual(EMPTY.rects(), ())
        for region in some_regions(60, 16):
            wanted = tuple((x0, y0, x1, y1) for y0, y1, runs in region.bands for x0, x1 in runs)
            self.assertEqual(region.rects(), wanted)
            self.assertEqual(Region.of(region.rects()), region)

    def test_places_is_a_generator(self):
        made = Region.of([(0, 0, 2, 2), (5, 1, 6, 2)]).places()
        self.assertIsInstance(made, GeneratorType)
        self.assertEqual(list(made), [(0, 0), (1, 0), (0, 1), (1, 1), (5, 1)])
        self.assertEqual(list(EMPTY.places()), [])

    def test_everything_has_no_box_rects_or_places(self):
        with self.assertRaises(EndlessRegion):
            ALL.box()
        with self.assertRaises(EndlessRegion):
            ALL.rects()
        made = ALL.places()
        with self.assertRaises(EndlessRegion):
            next(made)


if __name__ == "__main__":
    unittest.main()
