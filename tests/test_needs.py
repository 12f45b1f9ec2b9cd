"""Point 30: needs and reach, and their guarantees."""

import unittest
from random import Random

import growing
import slow
import slow_regions
from making import BIG, some_pixels, some_rects

from easelwork.layers import KINDS, layer
from easelwork.needs import needs, reach
from easelwork.regions import Region

EFFECTS = ("pass", "table", "kernel", "blur", "rank")
LOOKING = EFFECTS + ("placed", "styled")
ONE = Region.of([(5, 5, 6, 6)])
COLOR = (1, 2, 3, 4)


def some_layers(chance, kinds, count):
    return [growing.tree(chance, chance.choice(kinds), 2, growing.Numbers()) for _ in range(count)]


def some_region(chance, most=3):
    return Region.of(some_rects(chance, chance.randint(0, most), -6, 10))


def answer(tree, given):
    """The plane that a layer makes of its input: A' for an effect, its own plane for a placed or styled layer."""
    if tree[1] in EFFECTS:
        return slow.step(tree, given, False)
    return slow.shown_through(tree, given)


class NeedsTest(unittest.TestCase):
    def check(self, tree, need, spread):
        self.assertEqual(needs(tree, ONE).rects(), need)
        self.assertEqual(reach(tree, ONE).rects(), spread)

    def test_kernels(self):
        weights = ((1, 1, 1, 1), (1, 1, 1, 1))
        self.check(layer(1, "kernel", weights=weights, origin=(0, 0)), ((5, 5, 9, 7),), ((2, 4, 6, 6),))
        self.check(layer(1, "kernel", weights=weights, origin=(3, 1)), ((2, 4, 6, 6),), ((5, 5, 9, 7),))
        self.check(layer(1, "kernel", weights=weights, origin=(1, 0)), ((4, 5, 8, 7),), ((3, 4, 7, 6),))
        self.check(layer(1, "kernel"), ((5, 5, 6, 6),), ((5, 5, 6, 6),))

    def test_blurs_and_ranks(self):
        self.check(layer(1, "blur", radius=2, times=3), ((-1, -1, 12, 12),), ((-1, -1, 12, 12),))
        self.check(layer(1, "blur", radius=0, times=3), ((5, 5, 6, 6),), ((5, 5, 6, 6),))
        self.check(layer(1, "rank", across=3, down=1), ((2, 4, 9, 7),), ((2, 4, 9, 7),))

    def test_passes(self):
        kernel = layer(2, "kernel", weights=((1, 1, 1),))
        blur = layer(3, "blur")
        held = layer(4, "pass", layer(5, "rank", across=0, down=2))
        self.check(layer(1, "pass", kernel, layer(6, "solid"), blur, held), ((4, 2, 9, 9),), ((2, 2, 7, 9),))
        self.check(layer(1, "pass"), ((5, 5, 6, 6),), ((5, 5, 6, 6),))
        off = layer(1, "pass", layer(2, "blur", opacity=0), layer(3, "blur", shown=False), layer(4, "solid"))
        self.check(off, ((5, 5, 6, 6),), ((5, 5, 6, 6),))
        # A mask narrows nothing, and whether the layer itself is active does not matter.
        self.check(layer(1, "pass", layer(2, "blur", mask=()), shown=False, mask=()), ((4, 4, 7, 7),),
                   ((4, 4, 7, 7),))

    def test_placed_layers(self):
        self.check(layer(1, "placed", matrix=(1, 0, 3, 0, 1, -2, 1)), ((8, 3, 9, 4),), ((2, 7, 3, 8),))
        self.check(layer(1, "placed", matrix=(2, 0, 0, 0, 2, 0, 1), manner="smooth"), ((10, 10, 12, 12),),
                   ((2, 2, 3, 3),))

    def test_styled_layers(self):
        tree = layer(1, "styled", shadows=((3, 0, 0, 1, COLOR), (0, -4, 1, 2, (0, 0, 0, 0))), rims=((1, COLOR),))
        need = Region.of([(4, 4, 7, 7), (2, 5, 3, 6), (3, 7, 8, 12)])
        spread = Region.of([(4, 4, 7, 7), (8, 5, 9, 6), (3, -1, 8, 4)])
        self.assertEqual(needs(tree, ONE), need)
        self.assertEqual(reach(tree, ONE), spread)

    def test_all_other_kinds(self):
        region = Region.of([(0, 0, 2, 2), (5, 5, 9, 6)])
        for kind in ("paint", "solid", "ramp", "shape", "text", "group", "stack", "table"):
            children = (layer(2, "blur", radius=3),) if kind in ("group", "stack") else ()
            self.assertEqual(needs(layer(1, kind, *children), region), region)
            self.assertEqual(reach(layer(1, kind, *children), region), region)

    def test_everything_and_the_empty_region(self):
        chance = Random(1)
        for kind in KINDS:
            for _ in range(4):
                tree = growing.tree(chance, kind, 2, growing.Numbers())
                for region in (Region.everything(), Region.empty()):
                    self.assertEqual(needs(tree, region), region)
                    self.assertEqual(reach(tree, region), region)

    def test_the_regions_of_the_document(self):
        chance = Random(2)
        for tree in some_layers(chance, LOOKING + KINDS, 400):
            region = some_region(chance)
            self.assertEqual(needs(tree, region), slow_regions.needs(tree, region))
            self.assertEqual(reach(tree, region), slow_regions.reach(tree, region))

    def test_large_regions_are_not_walked_through(self):
        region = Region.of([(-BIG, 0, BIG, BIG)])
        self.assertEqual(needs(layer(1, "blur", radius=6, times=3), region).rects(),
                         ((-BIG - 18, -18, BIG + 18, BIG + 18),))
        self.assertEqual(reach(layer(1, "placed", matrix=(1, 0, 0, 0, 1, 0, 2)), region).box(),
                         (-2 * BIG, 0, 2 * BIG, 2 * BIG))


class GuaranteeTest(unittest.TestCase):
    def planes(self, chance, region, inside):
        """Two planes that are unlike, at most places of a square, inside the region or outside of it."""
        pixels = some_pixels(40, chance.randint(0, 10 ** 6))
        one = {(x, y): chance.choice(pixels) for x in range(-40, 60) for y in range(-40, 60)}
        two = {place: chance.choice(pixels) if (place in region) == inside else pixel for place, pixel in one.items()}
        return [slow.Plane(lambda x, y, held=held: held.get((x, y), (0, 0, 0, 0))) for held in (one, two)]

    def test_equal_inputs_where_it_looks_give_equal_answers(self):
        chance = Random(3)
        for tree in some_layers(chance, LOOKING, 60):
            target = Region.of([(x, y, x + 2, y + 2) for x, y in ((chance.randint(-2, 5), chance.randint(-2, 5)),)])
            one, two = self.planes(chance, needs(tree, target), False)
            first, second = answer(tree, one), answer(tree, two)
            for place in target.places():
                self.assertEqual(first.at(*place), second.at(*place), (tree, place))

    def test_answers_are_equal_outside_reach(self):
        chance = Random(4)
        for tree in some_layers(chance, LOOKING, 60):
            x, y = chance.randint(-2, 5), chance.randint(-2, 5)
            changed = Region.of([(x, y, x + 2, y + 1), (x, y + 3, x + 1, y + 4)])
            one, two = self.planes(chance, changed, True)
            first, second = answer(tree, one), answer(tree, two)
            spread = reach(tree, changed)
            for place in [(x, y) for x in range(-7, 12) for y in range(-7, 12) if (x, y) not in spread]:
                self.assertEqual(first.at(*place), second.at(*place), (tree, place))

    def test_needs_and_reach_fit_together(self):
        chance = Random(5)
        for tree in some_layers(chance, LOOKING + KINDS, 250):
            region = some_region(chance)
            spread = reach(tree, region)
            for _ in range(12):
                x, y = chance.randint(-15, 15), chance.randint(-15, 15)
                if needs(tree, Region.of([(x, y, x + 1, y + 1)])) & region:
                    self.assertIn((x, y), spread)

    def test_greater_regions_have_greater_needs_and_reach(self):
        chance = Random(6)
        for tree in some_layers(chance, EFFECTS + ("styled", "group", "paint"), 200):
            small = some_region(chance)
            large = small | some_region(chance)
            for spread in (needs, reach):
                self.assertFalse(spread(tree, small) - spread(tree, large))

    def test_the_needs_of_placed_layers_are_bounded(self):
        chance = Random(7)
        for _ in range(400):
            tree = layer(1, "placed", matrix=growing.matrix(chance, 4), manner=chance.choice(("near", "smooth")))
            w, h = chance.randint(1, 64), chance.randint(1, 64)
            x, y = chance.randint(-9, 9), chance.randint(-9, 9)
            x0, y0, x1, y1 = needs(tree, Region.of([(x, y, x + w, y + h)])).box()
            self.assertLess(x1 - x0, 4 * (w + h))
            self.assertLess(y1 - y0, 4 * (w + h))


if __name__ == "__main__":
    unittest.main()
