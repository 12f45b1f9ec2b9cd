"""Points 25, 26 and 28: folds, the planes of all kinds, plane_at, whole, and the guarantees of the meaning."""

import unittest
from random import Random

import growing
import slow
from making import BIG, refusal, some_colors, some_pixels

from easelwork.documents import Document
from easelwork.layers import layer, walk
from easelwork.levels import last_level
from easelwork.modes import MODES, blend, kept
from easelwork.pixels import CLEAR, ink, is_pixel, mixed, scale
from easelwork.plain import plane_at, whole

EFFECTS = ("pass", "table", "kernel", "blur", "rank")
FULL = {"opacity": 255, "mask": None, "shown": True}
DOT = ((0, 0, (10, 20, 30, 40)),)


def root(*children, **fields):
    return layer(0, "group", *children, **fields)


def picture(*children, wide=4, high=3):
    return whole(Document(wide, high, root(*children)), 0)


def plane_of(tree, rect=(-4, -4, 7, 6)):
    """The rows of the plane of a painted layer that stands alone in a document; its own head plays no part."""
    x0, y0, x1, y1 = rect
    alone = layer(0, "group", tree[:2] + layer(1, "group")[2:3] + tree[3:])
    document = Document(1, 1, alone)
    return [[plane_at(document, tree[0], x, y) for x in range(x0, x1)] for y in range(y0, y1)]


def some_documents(count, seed, **fields):
    chance = Random(seed)
    return [growing.document(chance, **fields) for _ in range(count)]


def painted(document):
    return [held for held in walk(document.root) if held[1] not in EFFECTS]


class MeaningTest(unittest.TestCase):
    """The package agrees with the slow account of the same points."""

    def check(self, document):
        expected = slow.plane(document.root).block(0, 0, document.wide, document.high)
        self.assertEqual(whole(document, 0), expected)

    def test_small_documents_of_all_kinds(self):
        for document in some_documents(250, 1, wide=5, high=4, deep=2):
            self.check(document)

    def test_deeply_nested_documents(self):
        for document in some_documents(100, 2, wide=4, high=4, deep=4):
            self.check(document)

    def test_each_kind_on_its_own(self):
        chance = Random(3)
        for kind in growing.LEAVES + growing.PAINTED_HOLDERS:
            for _ in range(12):
                tree = growing.tree(chance, kind, 2, growing.Numbers())
                document = Document(5, 5, root(tree))
                self.check(document)
                plane = slow.plane(tree)
                for x, y in ((0, 0), (-3, 2), (6, -1), (9, 9)):
                    self.assertEqual(plane_at(document, tree[0], x, y), plane.at(x, y))

    def test_each_effect_in_groups_and_stacks(self):
        chance = Random(4)
        for kind in EFFECTS:
            for holder in ("group", "stack", "pass", "placed", "styled"):
                for _ in range(4):
                    numbers = growing.Numbers()
                    below = growing.tree(chance, "paint", 1, numbers)
                    effect = growing.tree(chance, kind, 1, numbers)
                    above = growing.some_children(chance, 1, numbers, 2)
                    fields = growing.body(chance, holder)
                    self.check(Document(4, 4, root(below, layer(99, holder, below_again(below, numbers), effect,
                                                                *above, **fields))))

    def test_holders_of_effects_first(self):
        chance = Random(5)
        for holder in ("group", "stack", "placed", "styled"):
            for kind in EFFECTS:
                numbers = growing.Numbers()
                effect = growing.tree(chance, kind, 1, numbers)
                above = growing.tree(chance, "solid", 1, numbers)
                self.check(Document(3, 3, root(layer(99, holder, effect, above))))

    def test_every_plane_anywhere(self):
        for document in some_documents(80, 6, deep=3):
            for held in painted(document):
                plane = slow.plane(held)
                for x, y in ((0, 0), (-2, 5), (7, -3), (40, 40)):
                    self.assertEqual(plane_at(document, held[0], x, y), plane.at(x, y))

    def test_levels(self):
        for document in some_documents(40, 7, wide=7, high=5):
            block = whole(document, 0)
            for level in range(last_level(7, 5) + 1):
                self.assertEqual(whole(document, level), block)
                self.assertTrue(all(is_pixel(pixel) for row in block for pixel in row))
                block = slow.half(block)

    def test_placed_layers_one_in_another(self):
        chance = Random(8)
        for _ in range(25):
            tree = growing.tree(chance, "paint", 1, growing.Numbers())
            for number in range(90, 93):
                effects = [layer(number - 40, "blur", radius=chance.randint(0, 2))] * chance.randint(0, 1)
                tree = layer(number, "placed", tree, *effects, matrix=growing.matrix(chance, 4),
                             manner=chance.choice(("near", "smooth")))
            self.check(Document(4, 4, root(tree)))


def below_again(tree, numbers):
    """The same layer with a number of its own."""
    return (numbers.fresh(),) + tree[1:]


class FoldTest(unittest.TestCase):
    """The rules of point 25, one by one and by hand."""

    def test_modes_opacities_and_masks(self):
        below = layer(1, "solid", color=(200, 100, 50, 200))
        for mode in MODES:
            for opacity, mask in ((255, None), (100, None), (255, ((0, 0, 77),)), (100, ((0, 0, 77),))):
                above = layer(2, "solid", color=(10, 200, 30, 180), mode=mode, opacity=opacity, mask=mask)
                m = opacity if mask is None else (opacity * 77 + 127) // 255
                s, d = ink((10, 200, 30, 180)), ink((200, 100, 50, 200))
                self.assertEqual(picture(below, above, wide=1, high=1), ((blend(mode, scale(s, m), d),),))
                stack = layer(3, "stack", below, above)
                self.assertEqual(picture(stack, wide=1, high=1), ((kept(mode, scale(s, m), d),),))

    def test_a_mask_counts_at_its_places_only(self):
        above = layer(2, "solid", color=(255, 255, 255, 255), mask=((1, 0, 255), (2, 0, 128)))
        self.assertEqual(picture(above, high=1), ((CLEAR, (255,) * 4, (128,) * 4, CLEAR),))

    def test_the_mode_of_an_effect_means_nothing(self):
        below = layer(1, "solid", color=(200, 100, 50, 200))
        pictures = {picture(below, layer(2, "table", red=((0, 255), (255, 0)), opacity=90, mode=mode))
                    for mode in MODES}
        self.assertEqual(len(pictures), 1)

    def test_an_effect_goes_part_of_the_way(self):
        below = layer(1, "solid", color=(200, 100, 50, 255))
        turned = layer(2, "table", red=((0, 255), (255, 0)))
        for opacity in (1, 128, 255):
            effect = turned[:2] + (("over", opacity, None, True, ""),) + turned[3:]
            self.assertEqual(picture(below, effect, wide=1, high=1),
                             ((mixed((200, 100, 50, 255), (55, 100, 50, 255), opacity),),))

    def test_a_kernel_looks_from_its_origin(self):
        dot = layer(1, "paint", spots=((1, 1, (8, 8, 8, 8)),))
        for origin, place in (((0, 0), (0, 1)), ((1, 0), (1, 1))):
            # Of a row of weights (0, 1) the second one belongs to the dot, so the answer stands to its left.
            kernel = layer(2, "kernel", weights=((0, 1),), origin=origin)
            expected = tuple(tuple((8,) * 4 if (x, y) == place else CLEAR for x in range(4)) for y in range(3))
            self.assertEqual(picture(dot, kernel), expected)

    def test_effects_look_beyond_the_canvas(self):
        dot = layer(1, "paint", spots=((-1, 0, (90, 90, 90, 90)),))
        self.assertEqual(picture(dot, layer(2, "blur"), wide=2, high=1), (((10,) * 4, CLEAR),))
        self.assertEqual(picture(dot, layer(2, "rank", across=2, down=0, which="greatest"), wide=2, high=1),
                         (((90,) * 4, (90,) * 4),))

    def test_a_pass_folds_its_children_on_what_is_below(self):
        below = layer(1, "solid", color=(9, 9, 9, 255))
        dot = layer(2, "paint", spots=DOT)
        inverted = layer(3, "table", red=((0, 255), (255, 0)))
        held = layer(4, "pass", dot, inverted, opacity=100)
        start = (9, 9, 9, 255)
        over = blend("over", DOT[0][2], start)
        end = (255 - over[0],) + over[1:]
        self.assertEqual(picture(below, held, wide=1, high=1), ((mixed(start, end, 100),),))
        self.assertEqual(picture(below, layer(4, "pass"), wide=1, high=1), ((start,),))

    def test_children_that_are_not_active(self):
        below = layer(1, "solid", color=(9, 9, 9, 255))
        for fields in ({"opacity": 0}, {"shown": False}, {"mask": ()}):
            for kind in ("solid", "table", "pass", "blur"):
                self.assertEqual(picture(below, layer(2, kind, **fields)), picture(below))


class PaintedTest(unittest.TestCase):
    """The rules of point 26, by hand."""

    def test_paint_and_solid(self):
        document = Document(1, 1, root(layer(1, "paint", spots=((-128, 191, (1, 2, 3, 4)),)),
                                       layer(2, "solid", color=(255, 0, 0, 128))))
        self.assertEqual(plane_at(document, 1, -128, 191), (1, 2, 3, 4))
        self.assertEqual(plane_at(document, 1, -127, 191), CLEAR)
        for x, y in ((0, 0), (BIG, -BIG)):
            self.assertEqual(plane_at(document, 2, x, y), (128, 0, 0, 128))

    def test_a_shape_covers_parts_of_pixels(self):
        box = ((8, 0), (40, 0), (40, 16), (8, 16))
        shape = layer(1, "shape", outlines=(box,), color=(255, 255, 255, 255))
        self.assertEqual(picture(shape, high=2), (((128,) * 4, (255,) * 4, (128,) * 4, CLEAR), (CLEAR,) * 4))
        for rule, inside in (("odd", CLEAR), ("wind", (255,) * 4)):
            twice = layer(1, "shape", outlines=(box, box), color=(255, 255, 255, 255), rule=rule)
            self.assertEqual(picture(twice, wide=2, high=1)[0][1], inside)

    def test_a_shape_without_outlines_and_a_text_without_words(self):
        for kind in ("shape", "text", "group", "stack", "placed", "styled"):
            self.assertEqual(picture(layer(1, kind)), ((CLEAR,) * 4,) * 3)

    def test_a_text(self):
        glyph = ("a", 16, (((0, 0), (16, 0), (16, 16), (0, 16)),))
        text = layer(1, "text", font=(16, (glyph,)), words="a a", place=(16, 16), color=(255, 255, 255, 255))
        self.assertEqual(picture(text), ((CLEAR,) * 4, (CLEAR, (255,) * 4, CLEAR, (255,) * 4), (CLEAR,) * 4))
        small = layer(1, "text", font=(16, (glyph,)), words="aa", scale=8, color=(255, 255, 255, 255))
        self.assertEqual(picture(small, wide=2, high=1), (((128,) * 4, CLEAR),))

    def test_a_stack_keeps_the_alpha_of_its_first_child(self):
        base = layer(1, "paint", spots=((0, 0, (0, 0, 0, 128)), (1, 0, (5, 5, 5, 255))))
        light = layer(2, "solid", color=(255, 255, 255, 255))
        self.assertEqual(picture(layer(3, "stack", base, light), high=1),
                         (((128,) * 4, (255,) * 4, CLEAR, CLEAR),))
        blur = layer(2, "blur")
        got = picture(layer(3, "stack", base, blur), high=1)[0]
        self.assertEqual([pixel[3] for pixel in got], [128, 255, 0, 0])

    def test_the_first_child_of_a_stack_counts_even_if_it_is_not_active(self):
        light = layer(2, "solid", color=(255, 255, 255, 255))
        for first in (layer(1, "solid", shown=False), layer(1, "blur"), layer(1, "solid", opacity=0)):
            self.assertEqual(picture(layer(3, "stack", first, light)), ((CLEAR,) * 4,) * 3)
        lower = layer(1, "solid", color=(9, 9, 9, 255), opacity=100, mode="plus")
        self.assertEqual(picture(layer(3, "stack", lower, light))[0][0], (100,) * 4)

    def test_a_placed_layer_looks_through_its_matrix(self):
        dot = layer(1, "paint", spots=((2, 1, (8, 8, 8, 8)),))
        moved = layer(2, "placed", dot, matrix=(1, 0, 2, 0, 1, 1, 1))
        self.assertEqual(picture(moved)[0], ((8,) * 4, CLEAR, CLEAR, CLEAR))
        halves = layer(2, "placed", dot, matrix=(2, 0, 3, 0, 2, 2, 2), manner="smooth")
        self.assertEqual(picture(halves)[0][:2], ((4,) * 4, (4,) * 4))

    def test_styles(self):
        dot = layer(1, "paint", spots=((1, 1, (0, 0, 0, 255)),))
        shadow = layer(2, "styled", dot, shadows=((1, 0, 0, 1, (255, 0, 0, 255)),))
        self.assertEqual(picture(shadow)[1], (CLEAR, (0, 0, 0, 255), (255, 0, 0, 255), CLEAR))
        rim = layer(2, "styled", dot, rims=((1, (0, 255, 0, 255)),))
        green = (0, 255, 0, 255)
        self.assertEqual(picture(rim)[0], (green, green, green, CLEAR))
        self.assertEqual(picture(rim)[1], (green, (0, 0, 0, 255), green, CLEAR))
        soft = layer(2, "styled", dot, shadows=((0, 0, 1, 1, (255, 255, 255, 255)),))
        self.assertEqual(picture(soft)[0], ((28,) * 4, (28,) * 4, (28,) * 4, CLEAR))

    def test_the_head_of_a_layer_has_no_part_in_its_plane(self):
        chance = Random(9)
        for _ in range(30):
            tree = growing.tree(chance, chance.choice(growing.LEAVES + growing.PAINTED_HOLDERS), 1,
                                growing.Numbers())
            plain = tree[:2] + layer(1, "solid")[2:3] + tree[3:]
            one, two = Document(3, 3, root(tree)), Document(3, 3, root(plain))
            for x in range(-1, 4):
                self.assertEqual(plane_at(one, tree[0], x, 1), plane_at(two, tree[0], x, 1))


class RefusalTest(unittest.TestCase):
    def setUp(self):
        self.document = Document(5, 1, root(layer(1, "solid"), layer(2, "pass", layer(3, "blur"))))

    def test_layers(self):
        for number in (4, -1, 10 ** 60 - 1):
            self.assertEqual(refusal(plane_at, self.document, number, 0, 0), ("NoLayer", number))
        for number in (2, 3):
            self.assertEqual(refusal(plane_at, self.document, number, 0, 0), ("BadPlace",))
        for number in (0, 1):
            self.assertEqual(plane_at(self.document, number, -BIG, BIG), (0, 0, 0, 255))

    def test_levels(self):
        for level in (-1, 4, BIG):
            self.assertEqual(refusal(whole, self.document, level), ("BadValue", "level"))
        self.assertEqual([len(whole(self.document, level)[0]) for level in range(4)], [5, 3, 2, 1])
        self.assertEqual(refusal(whole, Document(1, 1, root()), 1), ("BadValue", "level"))


class GuaranteeTest(unittest.TestCase):
    """The guarantees of point 28."""

    def with_children(self, document, children):
        return Document(document.wide, document.high, root(*children))

    def test_planes_hold_pixels_alone(self):
        for document in some_documents(60, 10, deep=3):
            for row in whole(document, 0):
                self.assertTrue(all(is_pixel(pixel) for pixel in row))
            for held in painted(document):
                self.assertTrue(is_pixel(plane_at(document, held[0], -1, 2)))

    def test_children_without_effect_may_be_put_in(self):
        chance = Random(11)
        for document in some_documents(60, 12):
            numbers = growing.Numbers(500)
            for holder in ("group", "stack"):
                children = document.root[4]
                still = growing.tree(chance, chance.choice(growing.LEAVES + growing.PAINTED_HOLDERS + EFFECTS), 1,
                                     numbers)
                head = chance.choice(({"opacity": 0}, {"shown": False}, {"mask": ()}))
                still = still[:2] + layer(1, "solid", **head)[2:3] + still[3:]
                at = chance.randint(1 if holder == "stack" else 0, max(1, len(children)))
                if holder == "stack" and not children:
                    continue
                more = children[:at] + (still,) + children[at:]
                one, two = [self.with_children(document, (layer(900, holder, *some),)) for some in (children, more)]
                self.assertEqual(whole(one, 0), whole(two, 0))

    def test_a_group_without_children_changes_nothing(self):
        chance = Random(13)
        for document in some_documents(60, 14):
            children = document.root[4]
            at = chance.randint(0, len(children))
            empty = layer(900, "group", **growing.head(chance))
            more = children[:at] + (empty,) + children[at:]
            self.assertEqual(whole(self.with_children(document, more), 0),
                             whole(self.with_children(document, children), 0))

    def test_a_place_where_the_mask_is_0_stays(self):
        chance = Random(15)
        for document in some_documents(60, 16):
            child = growing.tree(chance, chance.choice(growing.LEAVES + EFFECTS), 1, growing.Numbers(500))
            spots = tuple((x, y, k) for x, y, k in growing.mask(chance) or () if (x + y) % 2)
            child = child[:2] + (child[2][:2] + (spots,) + child[2][3:],) + child[3:]
            one = whole(self.with_children(document, document.root[4]), 0)
            two = whole(self.with_children(document, document.root[4] + (child,)), 0)
            for y in range(document.high):
                for x in range(document.wide):
                    if (x + y) % 2 == 0:
                        self.assertEqual(one[y][x], two[y][x])

    def test_a_pass_may_be_replaced_by_its_children(self):
        chance = Random(17)
        for _ in range(60):
            numbers = growing.Numbers()
            low, inner, high = [growing.some_children(chance, 1, numbers, 2) for _ in range(3)]
            held = layer(900, "pass", *inner, mode=chance.choice(MODES))
            for holder in ("group", "placed", "styled", "pass"):
                fields = growing.body(chance, holder)
                base = growing.tree(chance, "paint", 1, growing.Numbers(800))
                one, two = [Document(4, 4, root(base, layer(901, holder, *some, **fields)))
                            for some in (low + (held,) + high, low + inner + high)]
                self.assertEqual(whole(one, 0), whole(two, 0))

    def test_a_group_with_one_child(self):
        chance = Random(18)
        for mode in [mode for mode in MODES if mode not in ("atop", "erase")]:
            for _ in range(4):
                child = growing.tree(chance, chance.choice(growing.LEAVES + growing.PAINTED_HOLDERS), 1,
                                     growing.Numbers())
                child = child[:2] + ((mode, 255, None, True, ""),) + child[3:]
                document = Document(4, 4, root(layer(900, "group", child)))
                for x in range(-1, 4):
                    self.assertEqual(plane_at(document, 900, x, 2), plane_at(document, child[0], x, 2))

    def test_a_solid_hides_what_is_below(self):
        chance = Random(19)
        for document in some_documents(40, 20):
            solid = layer(900, "solid", color=some_colors(1, chance.randint(0, 99))[0][:3] + (255,))
            above = growing.some_children(chance, 1, growing.Numbers(500), 2)
            for holder in ("group", "placed", "styled"):
                one, two = [self.with_children(document, (layer(901, holder, *some),))
                            for some in (document.root[4] + (solid,) + above, (solid,) + above)]
                self.assertEqual(whole(one, 0), whole(two, 0))

    def test_the_alpha_of_a_stack(self):
        chance = Random(21)
        for _ in range(60):
            children = growing.some_children(chance, 1, growing.Numbers(), 4)
            alone = layer(901, "group", *[renumbered(held, 500) for held in children[:1]])
            document = Document(4, 4, root(layer(900, "stack", *children), alone))
            for x in range(-1, 5):
                got = plane_at(document, 900, x, 1)
                self.assertEqual(got[3], plane_at(document, 901, x, 1)[3])
                if got[3] == 0:
                    self.assertEqual(got, CLEAR)

    def test_names_and_numbers_change_no_pixel(self):
        for document in some_documents(60, 22, deep=3):
            other = Document(document.wide, document.high, root(*[renumbered(one, 700) for one in document.root[4]],
                                                                name="x"))
            self.assertEqual(whole(document, 0), whole(other, 0))

    def test_the_head_of_the_root_means_nothing(self):
        chance = Random(23)
        for document in some_documents(30, 24):
            other = Document(document.wide, document.high, root(*document.root[4], **growing.head(chance)))
            self.assertEqual(whole(document, 0), whole(other, 0))


def renumbered(tree, more):
    """The tree with other numbers and other names."""
    head = tree[2][:4] + ("n" + tree[2][4],)
    return (tree[0] + more, tree[1], head, tree[3], tuple(renumbered(child, more) for child in tree[4]))


class WorkTest(unittest.TestCase):
    """A pixel of a fold is not computed anew for each of its uses: with many effects that would never end."""

    def test_many_effects_above_one_another(self):
        pixels = [pixel for pixel in some_pixels(99, 1) if pixel[3]]
        paint = layer(1, "paint", spots=tuple((x, y, pixels[(x * y) % 60]) for y in range(8) for x in range(8)))
        effects = []
        for k in range(5):
            effects.append(layer(10 + k, "blur", radius=2, times=2))
            effects.append(layer(20 + k, "rank", across=1, down=1))
            effects.append(layer(30 + k, "kernel", weights=((1, 2, 1),) * 3, origin=(1, 1), divisor=12))
        document = Document(8, 8, root(layer(50, "group", paint, *effects[:8]), *effects[8:]))
        self.assertEqual(plane_at(document, 0, 3, 3), whole(document, 0)[3][3])

    def test_holders_one_in_another(self):
        tree = layer(1, "paint", spots=tuple((x, y, (x, y, 0, 200)) for y in range(20) for x in range(20)))
        for k in range(4):
            tree = layer(10 + k, "styled", layer(20 + k, "blur"), tree,
                         shadows=((1, 1, 1, 2, (0, 0, 0, 255)), (-1, 2, 2, 1, (9, 9, 9, 255))), rims=((1, (1, 2, 3, 4)),))
        document = Document(20, 20, root(tree))
        self.assertEqual(plane_at(document, 0, 7, 9), whole(document, 0)[9][7])

    def test_placed_layers_that_look_far_apart(self):
        tree = layer(1, "paint", spots=tuple((x, y, (x, y, 0, 200)) for y in range(30) for x in range(30)))
        for k in range(3):
            tree = layer(10 + k, "placed", tree, matrix=(3, 4, -100, -4, 3, 90, 1), manner="smooth")
        document = Document(12, 12, root(tree))
        self.assertEqual(plane_at(document, 0, 5, 6), whole(document, 0)[6][5])


if __name__ == "__main__":
    unittest.main()
