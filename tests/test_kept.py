"""Kept tiles: points 37 and 38."""

import unittest
from random import Random

import histories
import slow
import slow_tiles
from making import refusal

from easelwork.documents import Document
from easelwork.errors import BadValue, EaselError
from easelwork.history import History
from easelwork.kept import Kept
from easelwork.layers import layer, walk
from easelwork.levels import last_level
from easelwork.stamps import stamp

DOT = (5, 5, 5, 5)


def begun(*layers, wide=4, high=4):
    return History(Document(wide, high, layer(0, "group", *layers)))


def put(number, *places):
    return ("put", number, tuple((x, y, DOT) for x, y in places))


def some_tile(chance, document):
    """A tile of the document: (number, level, i, j)."""
    painted = [tree[0] for tree in walk(document.root) if tree[1] not in slow.EFFECTS]
    number = chance.choice([0, 0] + painted)
    level = chance.randint(0, last_level(document.wide, document.high)) if number == 0 else 0
    return (number, level, chance.randint(-1, 2), chance.randint(-1, 2))


def names(kept):
    return {tile[:5] for tile in kept}


class RoomTest(unittest.TestCase):
    def test_sides_and_rooms_out_of_range(self):
        for side in (0, 17, -1, 10 ** 30):
            self.assertEqual(refusal(Kept, side, room=-1), ("BadValue", "side"))
        for room in (-1, 100001, 10 ** 30):
            self.assertEqual(refusal(Kept, 1, room=room), ("BadValue", "room"))
        self.assertEqual((Kept(1).room, Kept(16, room=0).room, Kept(16, room=100000).room), (40, 0, 100000))

    def test_a_new_one_keeps_nothing(self):
        kept = Kept(4)
        self.assertEqual((len(kept), list(kept), kept.painted), (0, [], 0))

    def test_room_may_be_changed(self):
        history = begun(layer(1, "solid"))
        kept = Kept(1)
        for i in range(4):
            kept.ask(history, 0, 1, 0, i, 0)
        kept.room = 3
        self.assertEqual((kept.room, len(kept)), (3, 3))
        self.assertIsNone(kept.change_room(1))
        self.assertEqual((kept.room, len(kept), kept.painted), (1, 1, 4))
        for room in (-1, 100001):
            self.assertEqual(refusal(kept.change_room, room), ("BadValue", "room"))
            with self.assertRaises(BadValue) as caught:
                kept.room = room
            self.assertEqual(caught.exception.field, "room")
        self.assertEqual((kept.room, len(kept)), (1, 1))
        kept.room = 0
        self.assertEqual(len(kept), 0)
        kept.room = 100000
        self.assertEqual(kept.room, 100000)

    def test_throw_out(self):
        history = begun(layer(1, "solid"))
        kept = Kept(1)
        for i in range(4):
            kept.ask(history, 0, 1, 0, i, 0)
        self.assertIsNone(kept.throw_out(0))
        self.assertEqual(len(kept), 4)
        kept.throw_out(3)
        self.assertEqual(len(kept), 1)
        kept.throw_out(10 ** 30)
        self.assertEqual((len(kept), kept.painted, kept.room), (0, 4, 40))

    def test_no_more_than_room_tiles_are_kept(self):
        history = begun(layer(1, "solid"), layer(2, "solid"))
        for room in range(6):
            kept = Kept(2, room=room)
            for i in (0, 1):
                kept.ask(history, 0, 0, 0, i, 0)
                self.assertEqual(len(kept), min(room, 3 * (i + 1)))


class AskTest(unittest.TestCase):
    def test_errors_in_their_order(self):
        history = begun(layer(1, "paint"), layer(2, "blur"))
        kept = Kept(2)
        self.assertEqual(refusal(kept.ask, history, 1, 9, 99, 0, 0), ("NoState", 1))
        self.assertEqual(refusal(kept.ask, history, 0, 9, 99, 0, 0), ("NoLayer", 9))
        self.assertEqual(refusal(kept.ask, history, 0, 2, 99, 0, 0), ("BadPlace",))
        self.assertEqual(refusal(kept.ask, history, 0, 0, 3, 9, 9), ("BadValue", "level"))
        self.assertEqual(refusal(kept.ask, history, 0, 0, -1, 0, 0), ("BadValue", "level"))
        self.assertEqual(refusal(kept.ask, history, 0, 1, 1, 0, 0), ("BadValue", "level"))
        self.assertEqual((len(kept), kept.painted), (0, 0))

    def test_tiles_without_pixels(self):
        history = begun(layer(1, "solid"))
        kept = Kept(2)
        for level, i, j in ((0, 2, 0), (0, -1, 0), (1, 1, 0), (2, 0, 1), (0, 10 ** 30, 0)):
            self.assertEqual(kept.ask(history, 0, 0, level, i, j), ())
        self.assertEqual(kept.painted, 0)

    def test_a_tile_of_a_layer_far_away(self):
        history = begun(layer(1, "solid", color=(1, 2, 3, 255)))
        kept = Kept(2)
        self.assertEqual(kept.ask(history, 0, 1, 0, -10 ** 30, 7), (((1, 2, 3, 255),) * 2,) * 2)
        self.assertEqual(names(kept), {(1, 0, -10 ** 30, 7, 0)})

    def test_a_kept_tile_adds_nothing(self):
        history = begun(layer(1, "solid"), layer(2, "paint"))
        kept = Kept(4)
        first = kept.ask(history, 0, 0, 0, 0, 0)
        self.assertEqual(kept.painted, 48)
        history.act(put(2, (-1, 0)))
        history.act(("set", 2, "name", "x"))
        self.assertEqual(kept.ask(history, 2, 0, 0, 0, 0), first)
        self.assertEqual((kept.painted, kept.ask(history, 0, 0, 0, 0, 0), kept.painted), (48, first, 48))

    def test_levels(self):
        history = begun(layer(1, "solid"), wide=5, high=3)
        kept = Kept(2, room=99)
        block = kept.ask(history, 0, 0, 1, 1, 0)
        self.assertEqual(block, (((0, 0, 0, 255),),) * 2)
        # Of the four tiles below only the two of column 2 have pixels: one column of 2 rows, and one pixel.
        self.assertEqual(names(kept), {(0, 1, 1, 0, 0), (0, 0, 2, 0, 0), (0, 0, 2, 1, 0), (1, 0, 2, 0, 0),
                                       (1, 0, 2, 1, 0)})
        self.assertEqual(kept.painted, 2 + 2 + 1 + 4 + 4)

    def test_only_changed_pixels_are_made_where_the_parent_is_kept(self):
        history = begun(layer(3, "group", layer(1, "paint")), layer(2, "solid", opacity=9))
        kept = Kept(4)
        kept.ask(history, 0, 0, 0, 0, 0)
        first = kept.painted
        history.act(put(1, (0, 0), (2, 2)))
        kept.ask(history, 1, 0, 0, 0, 0)
        # Two places of the paint layer, of the group and of the root.
        self.assertEqual(kept.painted, first + 6)
        history.go(0)
        history.act(put(1, (3, 3)))
        kept.ask(history, 2, 0, 0, 0, 0)
        self.assertEqual(kept.painted, first + 9)

    def test_a_parent_that_is_not_kept_helps_nothing(self):
        history = begun(layer(1, "paint"))
        history.act(put(1, (0, 0)))
        kept = Kept(4)
        kept.ask(history, 1, 0, 0, 0, 0)
        self.assertEqual(kept.painted, 32)
        kept.throw_out(9)
        kept.ask(history, 0, 1, 0, 0, 0)
        kept.ask(history, 1, 0, 0, 0, 0)
        # The paint layer's tile of state 0 is kept again, that of the root is not.
        self.assertEqual(kept.painted, 32 + 16 + 1 + 16)

    def test_children_that_are_not_active_are_not_asked_for(self):
        history = begun(layer(1, "solid", shown=False), layer(2, "solid", opacity=0),
                        layer(4, "pass", layer(3, "solid"), shown=False), layer(5, "solid", mask=()),
                        layer(7, "pass", layer(6, "solid", opacity=1), opacity=1))
        kept = Kept(4)
        kept.ask(history, 0, 0, 0, 0, 0)
        self.assertEqual(names(kept), {(n, 0, 0, 0, 0) for n in (0, 5, 6)})

    def test_where_children_are_needed(self):
        tree = layer(6, "group", layer(1, "solid"), layer(2, "blur", radius=2), layer(3, "solid"),
                     layer(7, "pass", layer(4, "rank", down=0), layer(5, "solid")), layer(8, "solid"))
        history = begun(tree)
        kept = Kept(2, room=999)
        kept.ask(history, 0, 6, 0, 0, 0)
        asked = {number: {tile[2:4] for tile in kept if tile[0] == number} for number in (1, 3, 5, 8)}
        one = {(0, 0)}
        self.assertEqual(asked[8], one)
        self.assertEqual(asked[5], one)
        self.assertEqual(asked[3], {(i, 0) for i in (-1, 0, 1)})
        self.assertEqual(asked[1], {(i, j) for i in (-2, -1, 0, 1, 2) for j in (-1, 0, 1)})

    def test_placed_and_styled_layers(self):
        placed = layer(1, "placed", layer(2, "solid"), matrix=(1, 0, 20, 0, 1, 0, 1))
        styled = layer(3, "styled", layer(4, "solid"), shadows=((8, 0, 0, 1, (0, 0, 0, 255)),), rims=((1, (0, 0, 0, 9)),))
        history = begun(placed, styled)
        kept = Kept(4, room=999)
        kept.ask(history, 0, 0, 0, 0, 0)
        asked = {number: {tile[2:4] for tile in kept if tile[0] == number} for number in (2, 4)}
        self.assertEqual(asked[2], {(5, 0)})
        self.assertEqual(asked[4], {(-2, 0)} | {(i, j) for i in (-1, 0, 1) for j in (-1, 0, 1)})

    def test_a_change_between_the_rects_of_a_styled_layer_is_not_looked_at(self):
        # The shadow looks far to the left; the tiles between it and the layer itself are never asked for.
        styled = layer(3, "styled", layer(4, "paint"), shadows=((30, 0, 0, 1, (0, 0, 0, 255)),))
        history = begun(styled)
        kept = Kept(4, room=999)
        history.act(put(4, (-30, 1), (-15, 1), (1, 1)))
        block = kept.ask(history, 1, 3, 0, 0, 0)
        self.assertEqual(block, slow_tiles.Pixels(history).tile(1, 3, 0, 4, 0, 0))
        self.assertEqual({tile[2:4] for tile in kept if tile[0] == 4}, {(0, 0), (-8, 0), (-7, 0)})


    def test_shadows_that_lie_across(self):
        for dx, dy in ((30, 7), (-29, 7), (31, -6), (-30, -9), (5, 30), (1, -31)):
            styled = layer(3, "styled", layer(4, "paint"), shadows=((dx, dy, 0, 1, (0, 0, 0, 255)),))
            history = begun(styled)
            history.act(put(4, *sorted([(2 - dx, 1 - dy), (1, 1)], key=lambda place: (place[1], place[0]))))
            for side in (3, 4):
                for i in (0, 1):
                    block = Kept(side).ask(history, 1, 3, 0, i, 0)
                    self.assertEqual(block, slow_tiles.Pixels(history).tile(1, 3, 0, side, i, 0))


class CountTest(unittest.TestCase):
    def test_exact_counts_and_names(self):
        for seed in range(60):
            chance = Random(seed)
            history = histories.some_history(chance, 6, chance.randint(1, 7), chance.randint(1, 7))
            side = chance.choice((1, 2, 3, 4, 5, 8, 16))
            kept = Kept(side, room=100000)
            counted = slow_tiles.Counted(side)
            for _ in range(16):
                if chance.randint(0, 3) == 0:
                    histories.grown(chance, history, 1)
                state = chance.choice((history.now, chance.randrange(len(history))))
                tile = some_tile(chance, history.document_at(state))
                kept.ask(history, state, *tile)
                counted.ask(history, state, *tile)
                self.assertEqual(kept.painted, counted.painted)
                self.assertEqual(names(kept), counted.names)

    def test_asking_again_adds_nothing(self):
        for seed in range(20):
            chance = Random(seed)
            history = histories.some_history(chance, 8)
            kept = Kept(chance.randint(1, 6), room=100000)
            tiles = []
            for _ in range(8):
                state = chance.randrange(len(history))
                tiles.append((state,) + some_tile(chance, history.document_at(state)))
                kept.ask(history, *tiles[-1])
                histories.grown(chance, history, 2)
            painted = kept.painted
            for tile in tiles:
                kept.ask(history, *tile)
            self.assertEqual(kept.painted, painted)

    def test_a_put_of_one_place_costs_one_pixel_for_each_layer_on_the_way_up(self):
        kinds = ("paint", "paint", "solid", "ramp", "shape", "group", "stack", "table", "pass")
        tried = 0
        for seed in range(120):
            chance = Random(seed)
            history = histories.some_history(chance, 2, 6, 5, deep=3, kinds=kinds)
            paints = [tree[0] for tree in walk(history.document.root) if tree[1] == "paint"]
            if not paints:
                continue
            side = chance.randint(1, 6)
            kept = Kept(side, room=100000)
            self.ask_all(kept, history, side)
            number = chance.choice(paints)
            try:
                history.act(put(number, (chance.randint(0, 5), chance.randint(0, 4))))
            except EaselError:
                continue
            tried += 1
            painted = kept.painted
            self.ask_all(kept, history, side)
            self.assertLessEqual(kept.painted - painted, self.painted_above(history.document, number))
        self.assertGreater(tried, 40)

    def ask_all(self, kept, history, side):
        document = history.document
        for j in range(-(-document.high // side)):
            for i in range(-(-document.wide // side)):
                kept.ask(history, history.now, 0, 0, i, j)

    def painted_above(self, document, number):
        count = 1
        while number != 0:
            number = document.holder(number)[0]
            count += document.layer(number)[1] != "pass"
        return count


class GuaranteeTest(unittest.TestCase):
    def test_pixels_of_all_states_with_any_room(self):
        for seed in range(45):
            chance = Random(500 + seed)
            history = histories.some_history(chance, 8, chance.randint(1, 6), chance.randint(1, 6), deep=1)
            side = chance.randint(1, 16)
            kept = Kept(side, room=chance.choice((0, 1, 2, 5, 40)))
            pixels = slow_tiles.Pixels(history)
            for _ in range(10):
                state = chance.randrange(len(history))
                tile = some_tile(chance, history.document_at(state))
                number, level, i, j = tile
                self.assertEqual(kept.ask(history, state, *tile), pixels.tile(state, number, level, side, i, j))
                self.assertLessEqual(len(kept), kept.room)
                if chance.randint(0, 3) == 0:
                    kept.throw_out(chance.randint(0, 4))
                if chance.randint(0, 5) == 0:
                    kept.room = chance.randint(0, 8)
                self.check_kept(kept, history, pixels)

    def check_kept(self, kept, history, pixels):
        tiles = list(kept)
        self.assertEqual(len(tiles), len(kept))
        self.assertEqual(len({tile[:5] for tile in tiles}), len(tiles))
        for number, level, i, j, u, block in tiles[:3]:
            self.assertEqual(block, pixels.tile(u, number, level, kept.side, i, j))
            self.assertEqual(stamp(history, u, number, level, kept.side, i, j), u)

    def test_a_history_changes_no_kept_one(self):
        history = begun(layer(1, "paint"))
        kept = Kept(2)
        kept.ask(history, 0, 0, 0, 0, 0)
        before = sorted(kept)
        history.act(put(1, (0, 0)))
        history.undo()
        history.mark("x")
        self.assertEqual((sorted(kept), kept.painted), (before, 8))


if __name__ == "__main__":
    unittest.main()
