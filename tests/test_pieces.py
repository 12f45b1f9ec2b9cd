"""Point 31: pieces, and which planes of children a plane depends on."""

import unittest
from random import Random

import growing
import slow
import slow_regions
from making import BIG, refusal, some_pixels

from easelwork.documents import Document
from easelwork.layers import layer, walk
from easelwork.pieces import piece
from easelwork.pixels import CLEAR, is_pixel
from easelwork.plain import plane_at, whole
from easelwork.regions import Region

EFFECTS = ("pass", "table", "kernel", "blur", "rank")
PAINTED = growing.LEAVES + growing.PAINTED_HOLDERS
SHAPES = ((1, 1), (5, 4), (1, 7), (6, 1))


def some_tree(chance, deep=2):
    return growing.tree(chance, chance.choice(PAINTED), deep, growing.Numbers())


def needed(tree, region):
    """The painted children that are needed for the layer on the region, each with where it is needed."""
    return needed_of(tree[4], slow_regions.needs(tree, region))


def needed_of(children, region):
    out = []
    for child in reversed([child for child in children if slow.active(child)]):
        if child[1] not in EFFECTS:
            out.append((child, region))
            continue
        if child[1] == "pass":
            out.extend(needed_of(child[4], region))
        region = slow_regions.needs(child, region)
    return out


class PieceTest(unittest.TestCase):
    def test_pieces_are_what_plane_at_tells(self):
        chance = Random(1)
        for _ in range(60):
            document = growing.document(chance, deep=2)
            for held in walk(document.root):
                if held[1] in EFFECTS:
                    continue
                wide, high = chance.choice(SHAPES)
                x0, y0 = chance.randint(-8, 8), chance.randint(-8, 8)
                block = piece(held, (x0, y0, x0 + wide, y0 + high))
                self.assertEqual((len(block), {len(row) for row in block}), (high, {wide}))
                self.assertEqual(block, tuple(tuple(plane_at(document, held[0], x0 + i, y0 + j) for i in range(wide))
                                              for j in range(high)))

    def test_pieces_of_the_meaning(self):
        chance = Random(2)
        for _ in range(200):
            tree = some_tree(chance)
            wide, high = chance.choice(SHAPES)
            x0, y0 = chance.randint(-8, 8), chance.randint(-8, 8)
            rect = (x0, y0, x0 + wide, y0 + high)
            self.assertEqual(piece(tree, rect), slow.plane(tree).block(*rect))

    def test_a_tree_needs_no_document(self):
        twice = layer(10 ** 30, "paint", spots=((2, 1, (1, 2, 3, 4)),))
        tree = layer(-1, "group", twice, layer(-1, "stack", twice, twice))
        self.assertEqual(piece(tree, (2, 1, 4, 2)), ((slow.plane(tree).at(2, 1), CLEAR),))

    def test_far_and_large_rects(self):
        chance = Random(3)
        for _ in range(40):
            tree = some_tree(chance)
            x0, y0 = chance.choice(((BIG, 5), (-BIG, -BIG), (0, BIG)))
            block = piece(tree, (x0, y0, x0 + 2, y0 + 1))
            self.assertTrue(all(is_pixel(pixel) for row in block for pixel in row))
        paint = layer(1, "paint", spots=((-50, -50, (1, 1, 1, 1)), (49, 49, (2, 2, 2, 2))))
        block = piece(layer(0, "group", paint), (-50, -50, 50, 50))
        self.assertEqual((block[0][0], block[99][99], len({pixel for row in block for pixel in row})),
                         ((1,) * 4, (2,) * 4, 3))
        self.assertEqual(piece(paint, (-5000, -50, 5000, -49))[0][4950], (1,) * 4)

    def test_the_piece_of_the_canvas_is_the_picture(self):
        chance = Random(4)
        for _ in range(30):
            document = growing.document(chance, deep=3)
            self.assertEqual(piece(document.root, (0, 0, document.wide, document.high)), whole(document, 0))

    def test_effects_have_no_pieces(self):
        for kind in EFFECTS:
            self.assertEqual(refusal(piece, layer(1, kind), (0, 0, 1, 1)), ("BadPlace",))

    def test_the_plane_depends_on_what_is_needed_only(self):
        chance = Random(5)
        pixels = some_pixels(40, 6)
        for _ in range(80):
            tree = growing.tree(chance, chance.choice(growing.PAINTED_HOLDERS), 2, growing.Numbers(),
                                kinds=("paint", "paint", "pass") + EFFECTS)
            x, y = chance.randint(-2, 5), chance.randint(-2, 5)
            target = Region.of([(x, y, x + 2, y + 1)])
            where = {}
            for child, region in needed(tree, target):
                where[child[0]] = where.get(child[0], Region.empty()) | region

            def changed(held):
                spots = held[3]
                if held[1] == "paint":
                    free = [(i, j) for j in range(-9, 14) for i in range(-9, 14)
                            if (i, j) not in where.get(held[0], Region.empty())]
                    kept = [spot for spot in held[3][0] if spot[:2] in where.get(held[0], Region.empty())]
                    more = [place + (chance.choice(pixels),) for place in free]
                    spots = (tuple(sorted(kept + more, key=lambda spot: (spot[1], spot[0]))),)
                return held[:3] + (spots, tuple(changed(child) for child in held[4]))
            self.assertEqual(piece(changed(tree), (x, y, x + 2, y + 1)), piece(tree, (x, y, x + 2, y + 1)))

    def test_lists_of_spots_that_are_drawn_from_stay(self):
        document = Document(2, 2, layer(0, "group", layer(1, "paint", spots=((0, 0, (1, 1, 1, 1)),))))
        before = document.pack()
        piece(document.root, (0, 0, 2, 2))
        self.assertEqual(document.pack(), before)


if __name__ == "__main__":
    unittest.main()
