"""Point 46: ready-made deeds."""

import unittest
from random import Random

import growing
from making import refusal

from easelwork.deeds import do
from easelwork.documents import Document
from easelwork.edits import baked, fresh, turned_deed, unwrapped, wrapped
from easelwork.layers import layer, walk
from easelwork.matrices import Matrix
from easelwork.pixels import CLEAR
from easelwork.plain import plane_at, whole

EFFECTS = ("pass", "table", "kernel", "blur", "rank")
PAINTED = growing.LEAVES + growing.PAINTED_HOLDERS


def document(*children, wide=3, high=2):
    return Document(wide, high, layer(0, "group", *children))


def head_of(mode="over", opacity=255, name=""):
    return (mode, opacity, None, True, name)


class FreshTest(unittest.TestCase):
    def test_one_more_than_the_greatest(self):
        self.assertEqual(fresh(document()), 1)
        self.assertEqual(fresh(document(layer(7, "group", layer(40, "solid")), layer(9, "solid"))), 41)
        self.assertEqual(fresh(document(layer(9999, "solid"))), 10000)


class BakedTest(unittest.TestCase):
    def test_a_layer_becomes_a_paint_layer(self):
        solid = layer(4, "solid", color=(255, 0, 0, 128), mode="plus", opacity=9, mask=((0, 0, 5),), name="x")
        held = document(layer(1, "blur"), layer(2, "group", layer(3, "paint"), solid))
        spots = tuple((x, y, (128, 0, 0, 128)) for y in range(2) for x in range(3))
        paint = (4, "paint", ("plus", 9, ((0, 0, 5),), True, "x"), (spots,), ())
        self.assertEqual(baked(held, 4), ("several", (("drop", 4), ("add", 2, 1, paint))))
        later, _ = do(held, baked(held, 4))
        self.assertEqual(later.layer(4), paint)

    def test_clear_pixels_and_places_outside_the_canvas_are_left_out(self):
        held = document(layer(1, "paint", spots=((-1, 0, (1, 1, 1, 1)), (2, 0, (2, 2, 2, 2)), (2, 2, (3, 3, 3, 3)))))
        self.assertEqual(baked(held, 1)[1][1][3][3], (((2, 0, (2, 2, 2, 2)),),))
        self.assertEqual(baked(document(layer(1, "group")), 1)[1][1][3][3], ((),))

    def test_the_plane_is_the_same_on_the_canvas(self):
        chance = Random(1)
        for _ in range(60):
            held = growing.document(chance, deep=2)
            for tree in walk(held.root):
                if tree[0] == 0 or tree[1] in EFFECTS:
                    continue
                later, _ = do(held, baked(held, tree[0]))
                for x in range(-2, held.wide + 2):
                    on_canvas = 0 <= x < held.wide
                    self.assertEqual(plane_at(later, tree[0], x, 1),
                                     plane_at(held, tree[0], x, 1) if on_canvas else CLEAR)

    def test_what_is_refused(self):
        held = document(*[layer(10 + k, kind) for k, kind in enumerate(EFFECTS)])
        self.assertEqual(refusal(baked, held, 99), ("NoLayer", 99))
        self.assertEqual(refusal(baked, held, 0), ("BadPlace",))
        for k in range(len(EFFECTS)):
            self.assertEqual(refusal(baked, held, 10 + k), ("BadPlace",))


class WrappedTest(unittest.TestCase):
    def test_the_deed(self):
        held = document(layer(1, "solid"), layer(8, "pass", layer(3, "solid"), layer(5, "blur")))
        self.assertEqual(wrapped(held, 5), ("several", (("add", 8, 1, layer(9, "group")), ("shift", 5, 9, 0))))
        later, _ = do(held, wrapped(held, 5))
        self.assertEqual(later.layer(8)[4], (layer(3, "solid"), layer(9, "group", layer(5, "blur"))))
        later, _ = do(held, wrapped(held, 8))
        self.assertEqual(later.root[4][1], layer(9, "group", held.layer(8)))

    def test_what_is_refused(self):
        held = document(layer(1, "solid"))
        self.assertEqual(refusal(wrapped, held, 2), ("NoLayer", 2))
        self.assertEqual(refusal(wrapped, held, 0), ("BadPlace",))

    def test_do_may_refuse_the_deed(self):
        full = document(*[layer(1 + k, "solid") for k in range(16)])
        self.assertEqual(refusal(do, full, wrapped(full, 3)), ("TooLarge", "children"))
        last = document(layer(9999, "solid"))
        self.assertEqual(refusal(do, last, wrapped(last, 9999)), ("BadValue", "number"))


class UnwrappedTest(unittest.TestCase):
    def test_the_deed(self):
        held = document(layer(1, "solid"), layer(8, "group", layer(3, "solid"), layer(5, "blur")), layer(2, "solid"))
        self.assertEqual(unwrapped(held, 8),
                         ("several", (("shift", 3, 0, 1), ("shift", 5, 0, 2), ("drop", 8))))
        later, _ = do(held, unwrapped(held, 8))
        self.assertEqual(later.numbers(), (0, 1, 3, 5, 2))

    def test_unwrapping_takes_wrapping_back(self):
        chance = Random(2)
        for _ in range(60):
            held = growing.document(chance, deep=2)
            numbers = held.numbers()[1:]
            if not numbers or held.layer(0)[4] and len(numbers) > 39:
                continue
            number = chance.choice(numbers)
            later, _ = do(held, wrapped(held, number))
            again, _ = do(later, unwrapped(later, fresh(held)))
            self.assertTrue(again == held)

    def test_what_is_refused(self):
        others = [layer(20 + k, kind, layer(40 + k, "solid")) for k, kind in enumerate(("stack", "pass", "placed"))]
        held = document(layer(1, "group"), layer(2, "solid"), layer(3, "blur"), *others)
        self.assertEqual(refusal(unwrapped, held, 99), ("NoLayer", 99))
        for number in (0, 1, 2, 3, 20, 21, 22):
            self.assertEqual(refusal(unwrapped, held, number), ("BadPlace",))


class TurnedTest(unittest.TestCase):
    def setUp(self):
        dot = layer(2, "paint", spots=((0, 0, (9, 9, 9, 9)),))
        self.document = document(layer(1, "placed", dot, matrix=(2, 0, 0, 0, 2, 0, 2)))

    def test_the_picture_moves_as_the_matrix_tells(self):
        deed = turned_deed(self.document, 1, (1, 0, 2, 0, 1, 1, 1))
        self.assertEqual(deed, ("set", 1, "matrix", (1, 0, -2, 0, 1, -1, 1)))
        later, _ = do(self.document, deed)
        self.assertEqual(whole(self.document, 0)[0][0], (9, 9, 9, 9))
        self.assertEqual(whole(later, 0)[1][2], (9, 9, 9, 9))
        self.assertEqual(whole(later, 0)[0][0], CLEAR)

    def test_the_product_of_the_document(self):
        chance = Random(3)
        for _ in range(100):
            old, seven = growing.matrix(chance), growing.matrix(chance, 3)
            held = document(layer(1, "placed", matrix=old))
            self.assertEqual(turned_deed(held, 1, seven)[3], (Matrix(*old) * Matrix(*seven).inverse()).parts())

    def test_what_is_refused(self):
        self.assertEqual(refusal(turned_deed, self.document, 9, ()), ("NoLayer", 9))
        self.assertEqual(refusal(turned_deed, self.document, 2, ()), ("BadPlace",))
        self.assertEqual(refusal(turned_deed, self.document, 0, ()), ("BadPlace",))
        for seven in ((), (1, 0, 0, 0, 1, 0), (1, 0, 0, 0, 1, 0, 1, 1), (1, 0, 0, 0, 1, 0, 0), (0,) * 7):
            self.assertEqual(refusal(turned_deed, self.document, 1, seven), ("BadValue", "matrix"))
        self.assertEqual(refusal(turned_deed, self.document, 1, (1, 2, 0, 2, 4, 0, 1)), ("Singular",))

    def test_do_may_refuse_the_deed(self):
        deed = turned_deed(self.document, 1, (1, 0, 0, 0, 1, 0, 100))
        self.assertEqual(refusal(do, self.document, deed), ("BadValue", "matrix"))


if __name__ == "__main__":
    unittest.main()
