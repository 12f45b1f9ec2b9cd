"""Point 44: brushes, dabs, strokes and the deeds that paint."""

import unittest
from random import Random

import growing
from making import refusal, some_colors, some_pixels, some_spots

from easelwork.arith import mul
from easelwork.coverage import Coverage
from easelwork.deeds import do
from easelwork.documents import Document
from easelwork.layers import layer
from easelwork.modes import MODES, blend
from easelwork.pixels import CLEAR, ink, scale
from easelwork.strokes import brush, dab_places, painted_deed, selected, stroke_cover

RED = (255, 0, 0, 255)


def slow_brush(side):
    out = []
    for j in range(side):
        for i in range(side):
            n = sum((8 * i + 2 * u + 1 - 4 * side) ** 2 + (8 * j + 2 * v + 1 - 4 * side) ** 2 <= 16 * side * side
                    for u in range(4) for v in range(4))
            out.append((i, j, (255 * n + 8) // 16))
    return Coverage(out)


def slow_dabs(points, gap):
    road = [points[0]]
    for (px, py), (qx, qy) in zip(points, points[1:]):
        dx, dy = qx - px, qy - py
        n = max(abs(dx), abs(dy))
        for j in range(1, n + 1):
            road.append((px + (2 * j * dx + n) // (2 * n), py + (2 * j * dy + n) // (2 * n)))
    return tuple(place for k, place in enumerate(road) if k % gap == 0)


def some_points(chance, most=9):
    return tuple((chance.randint(-9, 9), chance.randint(-9, 9)) for _ in range(chance.randint(1, most)))


class BrushTest(unittest.TestCase):
    def test_squares(self):
        for side in (1, 2, 32):
            self.assertEqual(brush("square", side).spots,
                             tuple((i, j, 255) for j in range(side) for i in range(side)))

    def test_round_brushes(self):
        self.assertEqual(brush("round", 1).spots, ((0, 0, 191),))
        self.assertEqual(brush("round", 2), slow_brush(2))
        for side in range(1, 33):
            got = brush("round", side)
            self.assertEqual(got, slow_brush(side))
            self.assertEqual({(j, i, k) for i, j, k in got.spots}, set(got.spots))
            self.assertEqual(got.box(), (0, 0, side, side))

    def test_what_is_refused(self):
        for manner, side in (("oval", 3), ("", 3), ("round", 0), ("square", 0), ("round", 33), ("square", -1),
                             ("round", 10 ** 30)):
            self.assertEqual(refusal(brush, manner, side), ("BadValue", "brush"))


class DabsTest(unittest.TestCase):
    def test_one_point(self):
        for gap in (1, 64):
            self.assertEqual(dab_places(((-128, 191),), gap), ((-128, 191),))

    def test_steps_are_counted_over_the_whole_road(self):
        self.assertEqual(dab_places(((0, 0), (3, 1), (3, -2)), 2), ((0, 0), (2, 1), (3, 0), (3, -2)))
        self.assertEqual(dab_places(((0, 0), (1, 0), (1, 1), (0, 1), (0, 0)), 2), ((0, 0), (1, 1), (0, 0)))

    def test_a_dab_after_the_last_step(self):
        self.assertEqual(dab_places(((0, 0), (4, 0)), 2), ((0, 0), (2, 0), (4, 0)))
        self.assertEqual(dab_places(((0, 0), (5, 0)), 2), ((0, 0), (2, 0), (4, 0)))

    def test_equal_neighbours_on_a_road(self):
        self.assertEqual(dab_places(((2, 2), (2, 2), (2, 2)), 1), ((2, 2),))
        self.assertEqual(dab_places(((0, 0), (0, 0), (2, 0), (2, 0), (0, 0)), 1),
                         ((0, 0), (1, 0), (2, 0), (1, 0), (0, 0)))

    def test_a_gap_larger_than_the_road(self):
        self.assertEqual(dab_places(((0, 0), (9, 9)), 10), ((0, 0),))
        self.assertEqual(dab_places(((0, 0), (9, 9)), 9), ((0, 0), (9, 9)))

    def test_the_roads_of_the_document(self):
        chance = Random(1)
        for _ in range(300):
            points, gap = some_points(chance), chance.choice((1, 2, 3, 7, 64))
            self.assertEqual(dab_places(points, gap), slow_dabs(points, gap))

    def test_at_most_400_dabs(self):
        road = ((-128, 0), (191, 0), (111, 0))
        self.assertEqual(len(dab_places(road, 1)), 400)
        self.assertEqual(refusal(dab_places, road[:2] + ((110, 0),), 1), ("BadValue", "points"))
        self.assertEqual(len(dab_places(road[:2] + ((110, 0),), 2)), 201)
        self.assertEqual(len(dab_places(((-128, -128), (191, 191)) * 16, 64)), 155)

    def test_what_is_refused(self):
        for points in ((), ((0, 0),) * 33, ((0, 0), (192, 0)), ((-129, 0),), ((0, 192),), ((0, -129),), ((0,),),
                       ((0, 0, 0),), ((0, 0), ())):
            self.assertEqual(refusal(dab_places, points, 1), ("BadValue", "points"))
        for gap in (0, 65, -1, 10 ** 30):
            self.assertEqual(refusal(dab_places, ((0, 0),), gap), ("BadValue", "points"))
        self.assertEqual(len(dab_places(((0, 0),) * 32, 1)), 1)

    def test_a_list_of_points_stays(self):
        points = [(0, 0), (3, 3)]
        self.assertEqual(dab_places(points, 1), ((0, 0), (1, 1), (2, 2), (3, 3)))
        self.assertEqual(points, [(0, 0), (3, 3)])


class StrokeTest(unittest.TestCase):
    def test_the_middle_of_a_brush(self):
        self.assertEqual(stroke_cover(((5, 5),), "square", 1, 1).box(), (5, 5, 6, 6))
        self.assertEqual(stroke_cover(((5, 5),), "square", 2, 1).box(), (4, 4, 6, 6))
        self.assertEqual(stroke_cover(((5, 5),), "square", 3, 1).box(), (4, 4, 7, 7))
        self.assertEqual(stroke_cover(((-128, 191),), "square", 32, 1).box(), (-144, 175, -112, 207))

    def test_the_greatest_dab_counts(self):
        chance = Random(2)
        for _ in range(60):
            points, gap = some_points(chance, 4), chance.choice((1, 2, 5))
            manner, side = chance.choice(("round", "square")), chance.randint(1, 6)
            values = {}
            for x, y in slow_dabs(points, gap):
                for i, j, k in brush(manner, side).spots:
                    place = (x + i - side // 2, y + j - side // 2)
                    values[place] = max(values.get(place, 0), k)
            self.assertEqual(stroke_cover(points, manner, side, gap),
                             Coverage([place + (k,) for place, k in values.items()]))

    def test_what_is_refused(self):
        self.assertEqual(refusal(stroke_cover, (), "oval", 0, 0), ("BadValue", "points"))
        self.assertEqual(refusal(stroke_cover, ((0, 0),), "round", 1, 65), ("BadValue", "points"))
        self.assertEqual(refusal(stroke_cover, ((0, 0),), "oval", 1, 1), ("BadValue", "brush"))
        self.assertEqual(refusal(stroke_cover, ((0, 0),), "round", 33, 1), ("BadValue", "brush"))


class SelectedTest(unittest.TestCase):
    def test_all_none_and_some(self):
        root = layer(0, "group")
        for x, y in ((0, 0), (-500, 10 ** 30)):
            self.assertEqual(selected(Document(1, 1, root), x, y), 255)
            self.assertEqual(selected(Document(1, 1, root, chosen=()), x, y), 0)
        some = Document(1, 1, root, chosen=((-5, 2, 9), (4, 4, 255)))
        self.assertEqual([selected(some, x, y) for x, y in ((-5, 2), (4, 4), (0, 0), (2, -5))], [9, 255, 0, 0])


class PaintedDeedTest(unittest.TestCase):
    def document(self, chosen=None, spots=((0, 0, (9, 9, 9, 9)),)):
        return Document(2, 2, layer(0, "group", layer(1, "paint", spots=spots), layer(2, "solid")), chosen=chosen)

    def test_places_on_the_canvas_or_not(self):
        cover = Coverage([(-129, 0, 255), (-128, 0, 255), (191, 0, 255), (192, 0, 255), (1, 191, 255), (1, 192, 255)])
        self.assertEqual(painted_deed(self.document(), 1, cover, RED),
                         ("put", 1, ((-128, 0, (255, 0, 0, 255)), (191, 0, (255, 0, 0, 255)),
                                     (1, 191, (255, 0, 0, 255)))))

    def test_pixels_that_are_clear_or_change_nothing_are_kept(self):
        cover = Coverage([(0, 0, 255), (1, 0, 255)])
        self.assertEqual(painted_deed(self.document(), 1, cover, RED, mode="erase"),
                         ("put", 1, ((0, 0, CLEAR), (1, 0, CLEAR))))
        self.assertEqual(painted_deed(self.document(), 1, cover, (1, 2, 3, 0)),
                         ("put", 1, ((0, 0, (9, 9, 9, 9)), (1, 0, CLEAR))))

    def test_the_pixels_of_the_document(self):
        chance = Random(3)
        pixels = [pixel for pixel in some_pixels(40, 4) if pixel[3]]
        for _ in range(150):
            spots = tuple((x, y, chance.choice(pixels)) for y in range(4) for x in range(4) if chance.randint(0, 1))
            document = self.document(growing.mask(chance), spots)
            cover = Coverage(some_spots(chance, (-1, -1, 6, 5), 6))
            color, mode = some_colors(1, chance.randint(0, 999))[0], chance.choice(MODES)
            flow = chance.choice((0, 1, 100, 255))
            table = {(x, y): pixel for x, y, pixel in spots}
            expected = []
            for x, y, k in cover.spots:
                m = mul(mul(k, flow), selected(document, x, y))
                if m > 0:
                    expected.append((x, y, blend(mode, scale(ink(color), m), table.get((x, y), CLEAR))))
            if expected:
                self.assertEqual(painted_deed(document, 1, cover, color, flow=flow, mode=mode),
                                 ("put", 1, tuple(expected)))
            else:
                self.assertEqual(refusal(painted_deed, document, 1, cover, color, flow=flow, mode=mode),
                                 ("NoChange",))

    def test_what_is_refused(self):
        cover = Coverage([(0, 0, 255)])
        document = self.document()
        self.assertEqual(refusal(painted_deed, document, 9, cover, RED, flow=256), ("NoLayer", 9))
        self.assertEqual(refusal(painted_deed, document, 2, cover, RED, flow=256), ("BadPlace",))
        self.assertEqual(refusal(painted_deed, document, 0, cover, RED), ("BadPlace",))
        for flow in (-1, 256):
            self.assertEqual(refusal(painted_deed, document, 1, Coverage(()), RED, flow=flow), ("BadValue", "flow"))
        for empty in (Coverage(()), Coverage([(192, 0, 255), (0, -129, 255)])):
            self.assertEqual(refusal(painted_deed, document, 1, empty, RED), ("NoChange",))
        self.assertEqual(refusal(painted_deed, document, 1, cover, RED, flow=0), ("NoChange",))
        self.assertEqual(refusal(painted_deed, self.document(()), 1, cover, RED), ("NoChange",))
        self.assertEqual(refusal(painted_deed, self.document(((0, 0, 1),)), 1, Coverage([(0, 0, 100)]), RED),
                         ("NoChange",))

    def test_it_does_no_deed_and_do_may_refuse_it(self):
        document = self.document()
        before = document.pack()
        cover = Coverage.of_rect((-128, 0, -28, 41), 255)
        deed = painted_deed(document, 1, cover, RED)
        self.assertEqual(document.pack(), before)
        self.assertEqual(len(deed[2]), 4100)
        self.assertEqual(refusal(do, document, deed), ("BadValue", "spots"))


if __name__ == "__main__":
    unittest.main()
