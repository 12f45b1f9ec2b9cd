"""Points 32, 33 and 34: pairs, differ, between and picture_differ."""

import unittest
from random import Random

import doing
import growing
import slow
import slow_regions
from making import some_pixels

from easelwork.boxes import box
from easelwork.deeds import do
from easelwork.differ import between, differ, pairs, picture_differ
from easelwork.documents import Document
from easelwork.errors import EaselError
from easelwork.layers import layer, walk, with_field
from easelwork.plain import plane_at
from easelwork.regions import Region

EFFECTS = ("pass", "table", "kernel", "blur", "rank")
EMPTY = Region.empty()
ALL = Region.everything()
PIXEL = (9, 9, 9, 9)


def dot(number, *places, **head):
    return layer(number, "paint", spots=tuple((x, y, PIXEL) for x, y in places), **head)


def places(*some):
    return Region.of([(x, y, x + 1, y + 1) for x, y in some])


def paints(*numbers):
    return tuple(layer(number, "paint") for number in numbers)


def changed_documents(count, seed, most=5, **fields):
    """Pairs of a document and of what a few deeds made of it."""
    chance = Random(seed)
    for _ in range(count):
        old = new = growing.document(chance, **fields)
        for _ in range(chance.randint(1, most)):
            try:
                new = do(new, doing.some_deed(chance, new))[0]
            except EaselError:
                pass
        yield chance, old, new


class PairsTest(unittest.TestCase):
    def test_what_matches(self):
        for old in growing.LEAVES + growing.PAINTED_HOLDERS:
            for new in growing.LEAVES + growing.PAINTED_HOLDERS:
                self.assertEqual(pairs((layer(1, old),), (layer(1, new),)), ((0, 0),))
                self.assertEqual(pairs((layer(1, old),), (layer(2, new),)), ())
            for new in EFFECTS:
                self.assertEqual(pairs((layer(1, old),), (layer(1, new),)), ())
                self.assertEqual(pairs((layer(1, new),), (layer(1, old),)), ())
        for old in EFFECTS:
            for new in EFFECTS:
                self.assertEqual(pairs((layer(1, old),), (layer(1, new),)), ((0, 0),) if old == new else ())

    def test_nothing_and_all(self):
        self.assertEqual(pairs((), ()), ())
        self.assertEqual(pairs(paints(1, 2), ()), ())
        self.assertEqual(pairs((), paints(1, 2)), ())
        sixteen = tuple(range(16))
        self.assertEqual(pairs(paints(*sixteen), paints(*sixteen)), tuple((i, i) for i in range(16)))
        self.assertEqual(pairs(paints(*sixteen), paints(*range(20, 36))), ())
        # Of sixteen in the opposite order only one can be taken.
        self.assertEqual(len(pairs(paints(*sixteen), paints(*sixteen[::-1]))), 1)

    def test_of_equal_ways_the_old_one_is_passed_first(self):
        self.assertEqual(pairs(paints(1, 2), paints(2, 1)), ((1, 0),))
        self.assertEqual(pairs(paints(1, 2, 3), paints(3, 1, 2)), ((0, 1), (1, 2)))
        self.assertEqual(pairs(paints(1, 2, 3, 4), paints(2, 1, 4, 3)), ((1, 0), (3, 2)))

    def test_the_pairs_of_the_document(self):
        chance = Random(1)
        for _ in range(300):
            count = chance.choice((3, 6, 16))
            olds, news = [tuple(layer(number, chance.choice(("paint", "group", "blur", "rank")))
                                for number in chance.sample(range(count + 2), chance.randint(0, count)))
                          for _ in range(2)]
            self.assertEqual(pairs(olds, news), slow_regions.pairs(olds, news))


class DifferTest(unittest.TestCase):
    def test_equal_layers_and_heads(self):
        chance = Random(2)
        for kind in growing.LEAVES + growing.PAINTED_HOLDERS:
            for _ in range(8):
                tree = growing.tree(chance, kind, 2, growing.Numbers())
                other = (tree[0] + 500, kind, ("plus", 7, (), False, "x")) + tree[3:]
                self.assertEqual(differ(tree, tree), EMPTY)
                self.assertEqual(differ(tree, other), EMPTY)

    def test_paint(self):
        old = layer(1, "paint", spots=((0, 0, PIXEL), (5, 0, PIXEL), (3, 3, PIXEL)))
        new = layer(1, "paint", spots=((0, 0, PIXEL), (5, 0, (0, 0, 0, 1)), (4, 3, PIXEL)))
        self.assertEqual(differ(old, new), places((5, 0), (3, 3), (4, 3)))
        self.assertEqual(differ(layer(1, "paint"), old), places((0, 0), (5, 0), (3, 3)))

    def test_other_leaves_and_layers_of_different_kinds(self):
        ramp = layer(1, "ramp")
        self.assertEqual(differ(ramp, layer(1, "ramp", manner="ring")), ALL)
        clear = layer(1, "solid", color=(1, 1, 1, 0))
        self.assertEqual(differ(clear, layer(1, "solid", color=(2, 2, 2, 0))), EMPTY)
        self.assertEqual(differ(clear, layer(1, "solid")), ALL)
        square = ((0, 0), (16, 0), (16, 16), (0, 16))
        shape = layer(1, "shape", outlines=(square,))
        self.assertEqual(differ(shape, layer(1, "shape")).rects(), ((0, 0, 2, 2),))
        self.assertEqual(differ(shape, dot(1, (5, 5))), Region.of([(0, 0, 2, 2), (5, 5, 6, 6)]))

    def test_groups(self):
        old = layer(0, "group", dot(1), layer(2, "blur"))
        new = layer(0, "group", dot(1, (4, 4)), layer(2, "blur"))
        self.assertEqual(differ(old, new).rects(), ((3, 3, 6, 6),))

    def test_stacks_with_and_without_children(self):
        base = dot(1, (0, 0), (9, 9))
        old = layer(0, "stack", base, dot(2, (0, 0)))
        self.assertEqual(differ(old, layer(0, "stack", base, dot(2, (1, 1)))), Region.of([(0, 0, 2, 2)]) - places(
            (1, 0), (0, 1)))
        # What lies outside of both boxes is cut off.
        self.assertEqual(differ(old, layer(0, "stack", base, dot(2, (30, 30)))), places((0, 0)))
        self.assertEqual(differ(old, layer(0, "stack")), box(old))
        self.assertEqual(differ(layer(0, "stack"), old), box(old))
        self.assertEqual(differ(old, layer(0, "stack", dot(3, (2, 2)), base)), Region.of([(0, 0, 10, 10)]))
        self.assertEqual(differ(old, layer(0, "stack", dot(1, (0, 0)), dot(2, (0, 0)))), places((9, 9)))

    def test_placed_and_styled_layers(self):
        moved = {"matrix": (1, 0, 3, 0, 1, 0, 1)}
        old, new = [layer(0, "placed", dot(1, place), **moved) for place in ((5, 5), (7, 7))]
        self.assertEqual(differ(old, new), places((2, 5), (4, 7)))
        other = layer(0, "placed", dot(1, (5, 5)))
        self.assertEqual(differ(old, other), box(old) | box(other))
        rim = {"rims": ((1, (1, 1, 1, 0)),)}
        old, new = [layer(0, "styled", dot(1, place), **rim) for place in ((5, 5), (9, 9))]
        self.assertEqual(differ(old, new).rects(), ((4, 4, 7, 7), (8, 8, 11, 11)))
        other = layer(0, "styled", dot(1, (5, 5)))
        self.assertEqual(differ(old, other).rects(), ((4, 4, 7, 7),))

    def test_the_regions_of_the_document(self):
        for _, old, new in changed_documents(250, 3, deep=3):
            self.assertEqual(differ(old.root, new.root), slow_regions.differ(old.root, new.root))
            for held in walk(new.root):
                if held[0] in old.numbers() and held[1] not in EFFECTS:
                    before = old.layer(held[0])
                    if before[1] not in EFFECTS:
                        self.assertEqual(differ(before, held), slow_regions.differ(before, held))

    def test_planes_are_equal_outside(self):
        for chance, old, new in changed_documents(150, 4, deep=3):
            region = differ(old.root, new.root)
            for x, y in [(chance.randint(-9, 14), chance.randint(-9, 14)) for _ in range(25)]:
                if (x, y) not in region:
                    self.assertEqual(plane_at(old, 0, x, y), plane_at(new, 0, x, y))

    def test_any_two_layers(self):
        chance = Random(5)
        for _ in range(150):
            one, two = [growing.tree(chance, chance.choice(growing.LEAVES + growing.PAINTED_HOLDERS), 2,
                                     growing.Numbers()) for _ in range(2)]
            region = differ(one, two)
            self.assertEqual(region, slow_regions.differ(one, two))
            planes = slow.plane(one), slow.plane(two)
            for x, y in [(chance.randint(-9, 14), chance.randint(-9, 14)) for _ in range(12)]:
                if (x, y) not in region:
                    self.assertEqual(planes[0].at(x, y), planes[1].at(x, y))


class BetweenTest(unittest.TestCase):
    def setUp(self):
        self.given = places((20, 20))

    def check(self, olds, news, more):
        self.assertEqual(between(olds, news, self.given), self.given | more)

    def test_no_children(self):
        self.check((), (), EMPTY)
        self.assertEqual(between((), (), ALL), ALL)

    def test_children_without_a_pair(self):
        self.check((dot(1, (1, 1)),), (), places((1, 1)))
        self.check((), (dot(1, (1, 1)),), places((1, 1)))
        self.check((dot(1, (1, 1)), dot(2, (2, 2))), (dot(2, (2, 2)), dot(1, (1, 1))), places((1, 1)))
        self.check((dot(1, (1, 1), shown=False),), (), EMPTY)

    def test_a_pair_that_is_not_active(self):
        self.check((dot(1, (1, 1), shown=False),), (dot(1, (2, 2), opacity=0),), EMPTY)

    def test_one_of_a_pair_is_active_or_opacities_or_modes_differ(self):
        one = dot(1, (1, 1))
        for head in ({"shown": False}, {"opacity": 0}, {"opacity": 254}, {"mode": "plus"}):
            self.check((one,), (dot(1, (1, 1), **head),), places((1, 1)))
        blur, other = layer(1, "blur", mask=((1, 1, 5),)), layer(1, "blur", mask=((1, 1, 5),), opacity=3)
        self.check((blur,), (other,), places((1, 1)))
        # The mode of an effect means nothing.
        self.check((blur,), (with_field(blur, "mode", "plus"),), EMPTY)

    def test_painted_pairs(self):
        self.check((dot(1, (1, 1)),), (dot(1, (1, 1), (2, 1)),), places((2, 1)))
        masked = [dot(1, *some, mask=((1, 1, 9), (2, 1, 9))) for some in (((1, 1),), ((1, 1), (2, 1), (3, 1)))]
        self.check(masked[:1], masked[1:], places((2, 1)))

    def test_masks_of_painted_pairs(self):
        one = dot(1, (1, 1), (2, 1))
        self.check((one,), (with_field(one, "mask", ()),), Region.of([(1, 1, 3, 2)]))
        masks = [with_field(one, "mask", mask) for mask in (((1, 1, 9), (2, 1, 9)), ((1, 1, 9), (2, 1, 8), (9, 9, 9)))]
        self.check((masks[0],), (masks[1],), places((2, 1)))
        solid = layer(1, "solid", mask=((4, 4, 9),))
        self.check((solid,), (with_field(solid, "mask", ((4, 4, 8), (5, 4, 1))),), places((4, 4), (5, 4)))

    def test_passes(self):
        old, new = [layer(1, "pass", dot(2, place), layer(3, "blur")) for place in ((1, 1), (5, 5))]
        grown = Region.of([(0, 0, 3, 3), (4, 4, 7, 7), (19, 19, 22, 22)])
        self.check((old,), (new,), grown)
        masks = [with_field(tree, "mask", ((1, 1, 9),)) for tree in (old, new)]
        self.check((masks[0],), (masks[1],), places((1, 1)))
        self.check((masks[0],), (with_field(masks[1], "mask", ((1, 1, 9), (8, 8, 1))),), Region.of(
            [(1, 1, 3, 3), (4, 4, 7, 7), (8, 8, 9, 9)]))
        self.check((old,), (with_field(old, "mask", ()),), ALL)

    def test_other_effects(self):
        blur = layer(1, "blur")
        self.check((blur,), (blur,), Region.of([(19, 19, 22, 22)]))
        self.check((blur,), (layer(1, "blur", radius=2),), ALL)
        masked = with_field(blur, "mask", ((20, 21, 9),))
        self.check((masked,), (masked,), places((20, 21)))
        self.check((masked,), (layer(1, "blur", radius=2, mask=((3, 3, 1),)),), places((20, 21), (3, 3)))
        self.check((masked,), (with_field(blur, "mask", ((20, 21, 8),)),), places((20, 21)))
        table = layer(1, "table")
        self.check((table,), (table,), EMPTY)

    def test_the_regions_of_the_document(self):
        for chance, old, new in changed_documents(200, 6, deep=2):
            for given in (EMPTY, ALL, Region.of([(chance.randint(-3, 3), 0, 5, 4)])):
                self.assertEqual(between(old.root[4], new.root[4], given),
                                 slow_regions.between(old.root[4], new.root[4], given))

    def test_folds_are_equal_outside(self):
        for chance, old, new in changed_documents(100, 7, deep=2):
            given = Region.of([(x, y, x + 2, y + 1) for x, y in ((chance.randint(-3, 6), chance.randint(-3, 6)),)])
            region = between(old.root[4], new.root[4], given)
            pixels = some_pixels(30, chance.randint(0, 999))
            base = {(x, y): chance.choice(pixels) for x in range(-20, 26) for y in range(-20, 26)}
            other = {place: chance.choice(pixels) if place in given else pixel for place, pixel in base.items()}
            keeps = chance.choice((True, False))
            folds = []
            for held, children in ((base, old.root[4]), (other, new.root[4])):
                plane = slow.Plane(lambda x, y, held=held: held.get((x, y), (0, 0, 0, 0)))
                for child in children:
                    plane = slow.step(child, plane, keeps)
                folds.append(plane)
            for x, y in [(chance.randint(-8, 12), chance.randint(-8, 12)) for _ in range(20)]:
                if (x, y) not in region:
                    self.assertEqual(folds[0].at(x, y), folds[1].at(x, y))


class SmallChangesTest(unittest.TestCase):
    """What differ holds at most, where only spots of paint layers have changed."""

    def test_differ_holds_what_has_changed_and_what_effects_reach(self):
        chance = Random(8)
        kinds = ("paint", "paint", "solid", "group", "stack", "pass", "table")
        for turn in range(200):
            words = kinds if turn % 2 else kinds + ("blur", "rank", "kernel")
            old = new = growing.document(chance, deep=3, kinds=words)
            changed = EMPTY
            for held in list(walk(old.root)):
                if held[1] == "paint" and chance.randint(0, 1):
                    spots = growing.spots(chance)
                    changed = changed | differ(held, with_field(held, "spots", spots))
                    new = Document(new.wide, new.high, replaced(new.root, with_field(held, "spots", spots)))
            sums = [0, 0, 0, 0]
            for held in walk(old.root):
                if held[1] in ("blur", "rank", "kernel") and slow.active(held):
                    x0, y0, x1, y1 = slow_regions.reach(held, Region.of([(0, 0, 1, 1)])).box()
                    sums = [a + b for a, b in zip(sums, (-x0, -y0, x1 - 1, y1 - 1))]
            self.assertFalse(differ(old.root, new.root) - changed.grown(*sums))


def replaced(tree, held):
    if tree[0] == held[0]:
        return held
    return tree[:4] + (tuple(replaced(child, held) for child in tree[4]),)


class PictureDifferTest(unittest.TestCase):
    def test_sizes(self):
        root = layer(0, "group", dot(1, (1, 1)))
        document = Document(3, 4, root)
        self.assertEqual(picture_differ(document, Document(3, 4, root, chosen=())), EMPTY)
        self.assertEqual(picture_differ(document, Document(4, 4, root)), ALL)
        self.assertEqual(picture_differ(document, Document(3, 5, root)), ALL)

    def test_roots(self):
        old, new = [Document(3, 4, layer(0, "group", dot(1, place), opacity=opacity))
                    for place, opacity in (((1, 1), 255), ((50, 1), 0))]
        self.assertEqual(picture_differ(old, new), places((1, 1), (50, 1)))


if __name__ == "__main__":
    unittest.main()
