"""Dirty regions and stamps: points 35 and 36."""

import unittest
from random import Random

import histories
import slow
import slow_tiles
from making import refusal

from easelwork.differ import differ
from easelwork.documents import Document
from easelwork.history import History
from easelwork.layers import layer, walk
from easelwork.levels import last_level
from easelwork.regions import Region
from easelwork.stamps import dirty, stamp, tile_rect

EVERYTHING = Region.everything()
DOT = (5, 5, 5, 5)


def begun(wide=8, high=8):
    """A history of a canvas with a paint layer in a group, a blur in a pass, and a solid."""
    inner = layer(3, "group", layer(1, "paint"))
    return History(Document(wide, high, layer(0, "group", inner, layer(4, "pass", layer(5, "blur")), layer(2, "solid"))))


def put(x, y):
    return ("put", 1, ((x, y, DOT),))


def painted_numbers(document):
    return [tree[0] for tree in walk(document.root) if tree[1] not in slow.EFFECTS]


class DirtyTest(unittest.TestCase):
    def test_errors_in_their_order(self):
        history = begun()
        for state in (-1, 1, 10 ** 59):
            self.assertEqual(refusal(dirty, history, state, 77), ("NoState", state))
            self.assertEqual(refusal(stamp, history, state, 77, 99, 4, 0, 0), ("NoState", state))
        for number in (77, -1, 10 ** 59):
            self.assertEqual(refusal(dirty, history, 0, number), ("NoLayer", number))
            self.assertEqual(refusal(stamp, history, 0, number, 99, 4, 0, 0), ("NoLayer", number))
        for number in (4, 5):
            self.assertEqual(refusal(dirty, history, 0, number), ("BadPlace",))
            self.assertEqual(refusal(stamp, history, 0, number, 99, 4, 0, 0), ("BadPlace",))
        for number, level in ((0, -1), (0, 4), (1, 1), (1, -1), (3, 99)):
            self.assertEqual(refusal(stamp, history, 0, number, level, 4, 0, 0), ("BadValue", "level"))
        self.assertIsNone(refusal(stamp, history, 0, 0, 3, 4, 0, 0))

    def test_state_0(self):
        history = begun()
        for number in (0, 1, 2, 3):
            self.assertEqual(dirty(history, 0, number), EVERYTHING)

    def test_a_put(self):
        history = begun()
        state = history.act(put(2, 3))
        self.assertEqual(dirty(history, state, 1).rects(), ((2, 3, 3, 4),))
        self.assertEqual(dirty(history, state, 3).rects(), ((2, 3, 3, 4),))
        self.assertEqual(dirty(history, state, 0).rects(), ((1, 2, 4, 5),))
        self.assertEqual(dirty(history, state, 2), Region.empty())
        beyond = history.act(put(-3, 3))
        self.assertEqual(dirty(history, beyond, 1).rects(), ((-3, 3, -2, 4),))
        self.assertEqual(dirty(history, beyond, 0), Region.empty())

    def test_the_canvas_bounds_what_is_said_of_the_root_alone(self):
        history = begun()
        state = history.act(("set", 2, "color", (9, 9, 9, 255)))
        self.assertEqual(dirty(history, state, 2), EVERYTHING)
        self.assertEqual(dirty(history, state, 0).rects(), ((0, 0, 8, 8),))
        sized = history.act(("size", 8, 7))
        self.assertEqual((dirty(history, sized, 0), dirty(history, sized, 1)), (EVERYTHING, Region.empty()))

    def test_layers_that_the_parent_does_not_have(self):
        history = begun()
        added = history.act(("add", 0, 0, layer(9, "paint")))
        self.assertEqual((dirty(history, added, 9), dirty(history, added, 0)), (EVERYTHING, Region.empty()))
        history.act(("drop", 9))
        history.act(("add", 0, 0, layer(9, "blur")))
        effect = history.now
        painted = history.act(("several", (("drop", 9), ("add", 0, 0, layer(9, "paint")))))
        self.assertEqual(refusal(dirty, history, effect, 9), ("BadPlace",))
        self.assertEqual(dirty(history, painted, 9), EVERYTHING)
        self.assertEqual(stamp(history, painted, 9, 0, 4, -7, 100), painted)

    def test_it_is_worked_out_along_the_history_that_is_passed(self):
        one, two = begun(), begun()
        one.act(put(0, 0))
        two.act(put(1, 0))
        self.assertEqual(dirty(one, 1, 1).rects(), ((0, 0, 1, 1),))
        self.assertEqual(dirty(two, 1, 1).rects(), ((1, 0, 2, 1),))


class TileRectTest(unittest.TestCase):
    def test_tiles_of_layers(self):
        document = begun().document
        self.assertEqual(tile_rect(document, 1, 0, 3, -1, 2), (-3, 6, 0, 9))
        self.assertEqual(tile_rect(document, 1, 0, 16, 10 ** 30, 0), (16 * 10 ** 30, 0, 16 * 10 ** 30 + 16, 16))

    def test_tiles_of_levels(self):
        document = begun(7, 5).document
        self.assertEqual(tile_rect(document, 0, 0, 3, 2, 1), (6, 3, 7, 5))
        self.assertEqual(tile_rect(document, 0, 1, 3, 1, 0), (3, 0, 4, 3))
        self.assertEqual(tile_rect(document, 0, 2, 1, 1, 1), (1, 1, 2, 2))
        self.assertEqual(tile_rect(document, 0, 3, 16, 0, 0), (0, 0, 1, 1))
        for i, j in ((-1, 0), (0, -1), (3, 0), (0, 2), (10 ** 30, 0)):
            self.assertIsNone(tile_rect(document, 0, 0, 3, i, j))
        self.assertIsNone(tile_rect(document, 0, 1, 3, 2, 0))


class StampTest(unittest.TestCase):
    def test_the_last_state_that_may_have_changed_the_tile(self):
        history = begun()
        for x in (0, 2, 6):
            history.act(put(x, 0))
        self.assertEqual([stamp(history, 3, 1, 0, 2, i, 0) for i in range(5)], [1, 2, 0, 3, 0])
        self.assertEqual([stamp(history, 2, 1, 0, 2, i, 0) for i in range(4)], [1, 2, 0, 0])
        # A blur spreads the change at 2 to 1 and at 6 to 5.
        self.assertEqual([stamp(history, 3, 0, 0, 2, i, 0) for i in range(4)], [2, 2, 3, 3])
        self.assertEqual([stamp(history, 3, 0, 1, 1, i, 0) for i in range(4)], [2, 2, 3, 3])
        self.assertEqual([stamp(history, 2, 0, 2, 1, i, 0) for i in range(2)], [2, 0])
        self.assertEqual([stamp(history, 3, 0, 0, 2, i, 1) for i in range(4)], [0, 0, 0, 0])

    def test_branches(self):
        history = begun()
        history.act(put(0, 0))
        history.undo()
        history.act(put(7, 7))
        self.assertEqual((stamp(history, 1, 1, 0, 4, 0, 0), stamp(history, 1, 1, 0, 4, 1, 1)), (1, 0))
        self.assertEqual((stamp(history, 2, 1, 0, 4, 0, 0), stamp(history, 2, 1, 0, 4, 1, 1)), (0, 2))

    def test_tiles_without_pixels(self):
        history = begun()
        history.act(put(0, 0))
        history.act(("size", 9, 8))
        history.act(put(1, 1))
        self.assertEqual((stamp(history, 3, 0, 0, 4, 9, 9), stamp(history, 1, 0, 0, 4, -1, 0)), (2, 0))

    def test_canvases_whose_size_changes(self):
        history = begun()
        history.act(("size", 3, 3))
        history.act(put(0, 0))
        history.act(("size", 8, 8))
        self.assertEqual((stamp(history, 3, 0, 0, 4, 1, 1), stamp(history, 3, 1, 0, 4, 0, 0)), (3, 2))

    def test_against_the_slow_account(self):
        for seed in range(40):
            chance = Random(seed)
            history = histories.some_history(chance, 12, chance.randint(1, 7), chance.randint(1, 7))
            side = chance.randint(1, 6)
            for _ in range(12):
                state = chance.randrange(len(history))
                document = history.document_at(state)
                number = chance.choice([0] + painted_numbers(document))
                level = chance.randint(0, last_level(document.wide, document.high)) if number == 0 else 0
                i, j = chance.randint(-2, 3), chance.randint(-2, 3)
                self.assertEqual(dirty(history, state, number), slow_tiles.dirty(history, state, number))
                u = stamp(history, state, number, level, side, i, j)
                self.assertEqual(u, slow_tiles.stamp(history, state, number, level, side, i, j))
                self.assertEqual(stamp(history, u, number, level, side, i, j), u)

    def test_a_long_history(self):
        history = begun()
        for k in range(199):
            history.act(("put", 1, ((k * 7 % 8, k % 8, (0, 0, 0, k + 1)),)))
        history.go(150)
        for i in range(-1, 3):
            for j in range(-1, 3):
                for number in (0, 1, 2):
                    self.assertEqual(stamp(history, 199, number, 0, 3, i, j),
                                     slow_tiles.stamp(history, 199, number, 0, 3, i, j))


class GuaranteeTest(unittest.TestCase):
    def test_pixels_outside_the_dirty_region_and_of_stamps_are_equal(self):
        for seed in range(25):
            chance = Random(1000 + seed)
            history = histories.some_history(chance, 10, 4, 3, deep=1)
            pixels = slow_tiles.Pixels(history)
            for state in range(1, len(history)):
                parent = list(history)[state][1]
                document = history.document_at(state)
                for number in painted_numbers(document):
                    region = dirty(history, state, number)
                    if number != 0 and slow_tiles.held(history.document_at(parent), number) is None:
                        continue
                    places = slow_tiles.tile_places(document, number, 0, 6, chance.choice((0, 0, -1)), 0)
                    for x, y in places:
                        if (x, y) not in region:
                            self.assertEqual(pixels.plane(state, number).at(x, y), pixels.plane(parent, number).at(x, y))
            for _ in range(10):
                state = chance.randrange(len(history))
                document = history.document_at(state)
                number = chance.choice([0] + painted_numbers(document))
                level = chance.randint(0, last_level(document.wide, document.high)) if number == 0 else 0
                tile = (number, level, chance.randint(1, 4), chance.randint(-1, 1), chance.randint(-1, 1))
                u = stamp(history, state, *tile)
                self.assertEqual(pixels.tile(state, *tile), pixels.tile(u, *tile))

    def test_dirty_is_differ(self):
        for seed in range(20):
            chance = Random(seed)
            history = histories.some_history(chance, 8)
            for state, parent, _, _, _ in list(history)[1:]:
                old, new = history.document_at(parent), history.document_at(state)
                for number in painted_numbers(new):
                    if number and number in painted_numbers(old):
                        self.assertEqual(dirty(history, state, number), differ(old.layer(number), new.layer(number)))

    def test_the_history_stays_as_it_was(self):
        history = histories.some_history(Random(3), 10)
        before = history.pack()
        for state in range(len(history)):
            dirty(history, state, 0)
            stamp(history, state, 0, 0, 2, 0, 0)
        self.assertEqual(history.pack(), before)


if __name__ == "__main__":
    unittest.main()
