"""Point 29: boxes and spans."""

import unittest
from random import Random

import growing
import slow
import slow_regions
from making import refusal

from easelwork.boxes import box, span
from easelwork.layers import layer
from easelwork.regions import Region

EFFECTS = ("pass", "table", "kernel", "blur", "rank")
PAINTED = growing.LEAVES + growing.PAINTED_HOLDERS
CLEAR_COLOR = (9, 9, 9, 0)
EMPTY = Region.empty()
ALL = Region.everything()
DOT = layer(7, "paint", spots=((3, 4, (1, 1, 1, 1)), (5, 2, (1, 1, 1, 1))))
TRIANGLE = ((0, 0), (40, 0), (0, 20))


def rects(region):
    return region.rects()


class BoxTest(unittest.TestCase):
    def test_paint(self):
        self.assertEqual(rects(box(DOT)), ((3, 2, 6, 5),))
        self.assertEqual(box(layer(1, "paint")), EMPTY)

    def test_colors_of_alpha_0(self):
        self.assertEqual(box(layer(1, "solid")), ALL)
        self.assertEqual(box(layer(1, "solid", color=CLEAR_COLOR)), EMPTY)
        self.assertEqual(box(layer(1, "ramp")), ALL)
        self.assertEqual(box(layer(1, "ramp", first=CLEAR_COLOR)), ALL)
        self.assertEqual(box(layer(1, "ramp", second=CLEAR_COLOR)), ALL)
        self.assertEqual(box(layer(1, "ramp", first=CLEAR_COLOR, second=CLEAR_COLOR)), EMPTY)
        self.assertEqual(box(layer(1, "shape", outlines=(TRIANGLE,), color=CLEAR_COLOR)), EMPTY)
        font = (9, (("a", 9, (TRIANGLE,)),))
        self.assertEqual(box(layer(1, "text", font=font, words="a", color=CLEAR_COLOR)), EMPTY)

    def test_colors_of_alpha_1(self):
        faint = (9, 9, 9, 1)
        font = (9, (("a", 9, (TRIANGLE,)),))
        for tree in (layer(1, "solid", color=faint), layer(1, "ramp", first=faint, second=CLEAR_COLOR),
                     layer(1, "ramp", first=CLEAR_COLOR, second=faint), layer(1, "shape", outlines=(TRIANGLE,),
                     color=faint), layer(1, "text", font=font, words="a", color=faint)):
            self.assertTrue(box(tree))

    def test_shapes_and_texts(self):
        self.assertEqual(rects(box(layer(1, "shape", outlines=(TRIANGLE,)))), ((0, 0, 3, 2),))
        self.assertEqual(box(layer(1, "shape")), EMPTY)
        font = (9, (("a", 16, (TRIANGLE,)), ("b", 16, ())))
        self.assertEqual(rects(box(layer(1, "text", font=font, words="ba", place=(0, 16)))), ((1, 1, 4, 3),))
        for words in ("", " ", "bb b"):
            self.assertEqual(box(layer(1, "text", font=font, words=words)), EMPTY)

    def test_groups_hold_what_their_active_children_hold(self):
        off = layer(1, "solid", shown=False)
        self.assertEqual(box(layer(0, "group", DOT, off, layer(2, "solid", opacity=0))), box(DOT))
        self.assertEqual(box(layer(0, "group")), EMPTY)
        self.assertEqual(box(layer(0, "group", DOT, layer(1, "solid"))), ALL)

    def test_masks(self):
        solid = layer(1, "solid", mask=((1, 1, 5), (3, 0, 9)))
        self.assertEqual(rects(box(layer(0, "group", solid))), ((1, 0, 4, 2),))
        self.assertEqual(box(layer(0, "group", layer(1, "solid", mask=()))), EMPTY)
        # The own head of a layer plays no part in its box.
        self.assertEqual(box(solid), ALL)

    def test_effects_in_a_group(self):
        self.assertEqual(rects(box(layer(0, "group", DOT, layer(1, "blur")))), ((2, 1, 7, 6),))
        self.assertEqual(rects(box(layer(0, "group", layer(1, "blur"), DOT))), ((3, 2, 6, 5),))
        self.assertEqual(rects(box(layer(0, "group", DOT, layer(1, "table")))), ((3, 2, 6, 5),))
        self.assertEqual(rects(box(layer(0, "group", DOT, layer(1, "blur", opacity=0)))), ((3, 2, 6, 5),))
        masked = layer(1, "rank", across=3, down=3, mask=((0, 0, 1), (4, 4, 1)))
        self.assertEqual(box(layer(0, "group", DOT, masked)), Region.of([(3, 2, 6, 5), (0, 0, 5, 5)]))
        kernel = layer(1, "kernel", weights=((1, 1, 1),), origin=(0, 0))
        self.assertEqual(rects(box(layer(0, "group", DOT, kernel))), ((1, 2, 6, 5),))

    def test_passes_in_a_group(self):
        more = layer(3, "paint", spots=((9, 9, (1, 1, 1, 1)),))
        held = layer(2, "pass", layer(1, "blur"), more)
        self.assertEqual(box(layer(0, "group", DOT, held)), Region.of([(2, 1, 7, 6), (9, 9, 10, 10)]))
        masked = layer(2, "pass", layer(1, "blur"), more, mask=((9, 9, 1),))
        self.assertEqual(box(layer(0, "group", DOT, masked)), Region.of([(3, 2, 6, 5), (9, 9, 10, 10)]))

    def test_stacks_are_as_large_as_their_first_child(self):
        self.assertEqual(box(layer(0, "stack", DOT, layer(1, "solid"), layer(2, "blur"))), box(DOT))
        self.assertEqual(box(layer(0, "stack", layer(2, "blur"), layer(1, "solid"))), EMPTY)
        self.assertEqual(box(layer(0, "stack", layer(1, "solid", shown=False), DOT)), EMPTY)
        self.assertEqual(box(layer(0, "stack")), EMPTY)

    def test_placed_layers(self):
        self.assertEqual(rects(box(layer(0, "placed", DOT, matrix=(1, 0, 10, 0, 1, 0, 1)))), ((-7, 2, -4, 5),))
        self.assertEqual(box(layer(0, "placed")), EMPTY)
        self.assertEqual(box(layer(0, "placed", layer(1, "solid"))), ALL)

    def test_styled_layers(self):
        shadow, hidden = (10, 0, 1, 2, (0, 0, 0, 1)), (0, 50, 1, 2, CLEAR_COLOR)
        tree = layer(0, "styled", DOT, shadows=(shadow, hidden), rims=((1, CLEAR_COLOR),))
        self.assertEqual(box(tree), Region.of([(2, 1, 7, 6), (11, 0, 18, 7)]))
        self.assertEqual(box(layer(0, "styled", shadows=(shadow,))), EMPTY)

    def test_effects_have_no_box(self):
        for kind in EFFECTS:
            self.assertEqual(refusal(box, layer(1, kind)), ("BadPlace",))

    def test_the_regions_of_the_document(self):
        chance = Random(1)
        for _ in range(400):
            tree = growing.tree(chance, chance.choice(PAINTED), 3, growing.Numbers())
            self.assertEqual(box(tree), slow_regions.box(tree))

    def test_planes_are_clear_outside(self):
        chance = Random(2)
        for _ in range(120):
            tree = growing.tree(chance, chance.choice(PAINTED), 2, growing.Numbers())
            held, plane = box(tree), slow.plane(tree)
            for x, y in [(chance.randint(-9, 14), chance.randint(-9, 14)) for _ in range(20)]:
                if (x, y) not in held:
                    self.assertEqual(plane.at(x, y), (0, 0, 0, 0))


class SpanTest(unittest.TestCase):
    def test_layers_that_are_not_active(self):
        for kind in PAINTED + EFFECTS:
            for head in ({"shown": False}, {"opacity": 0}):
                self.assertEqual(span(layer(1, kind, **head)), EMPTY)

    def test_painted_layers(self):
        self.assertEqual(span(DOT), box(DOT))
        self.assertEqual(rects(span(layer(1, "solid", mask=((2, 2, 9),)))), ((2, 2, 3, 3),))
        self.assertEqual(span(layer(1, "solid", mask=())), EMPTY)
        self.assertEqual(span(layer(1, "solid")), ALL)

    def test_effects(self):
        for kind in ("table", "kernel", "blur", "rank"):
            self.assertEqual(span(layer(1, kind)), ALL)
            self.assertEqual(rects(span(layer(1, kind, mask=((2, 2, 9), (0, 4, 1))))), ((0, 2, 3, 5),))
            self.assertEqual(span(layer(1, kind, mask=())), EMPTY)

    def test_passes(self):
        self.assertEqual(span(layer(1, "pass")), EMPTY)
        self.assertEqual(span(layer(1, "pass", DOT, layer(2, "solid", shown=False))), box(DOT))
        self.assertEqual(span(layer(1, "pass", DOT, layer(2, "blur"))), ALL)
        self.assertEqual(rects(span(layer(1, "pass", layer(2, "blur"), mask=((2, 2, 9),)))), ((2, 2, 3, 3),))
        self.assertEqual(span(layer(1, "pass", layer(2, "pass", layer(3, "blur", mask=())))), EMPTY)

    def test_the_regions_of_the_document(self):
        chance = Random(3)
        for _ in range(400):
            tree = growing.tree(chance, chance.choice(PAINTED + EFFECTS), 3, growing.Numbers())
            self.assertEqual(span(tree), slow_regions.span(tree))

    def test_a_child_changes_nothing_outside_its_span(self):
        chance = Random(4)
        for _ in range(120):
            numbers = growing.Numbers()
            below = growing.some_children(chance, 1, numbers, 3)
            child = growing.tree(chance, chance.choice(PAINTED + EFFECTS), 2, numbers)
            held, keeps = span(child), chance.choice((True, False))
            before = slow.fold(below, slow.clear())
            after = slow.step(child, before, keeps)
            for x, y in [(chance.randint(-9, 14), chance.randint(-9, 14)) for _ in range(12)]:
                if (x, y) not in held:
                    self.assertEqual(before.at(x, y), after.at(x, y))


if __name__ == "__main__":
    unittest.main()
