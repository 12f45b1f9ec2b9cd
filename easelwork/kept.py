"""Kept tiles: finished pixels of the layers of any state of a history."""

from easelwork.errors import BadValue
from easelwork.levels import half
from easelwork.regions import Region
from easelwork.stamps import check_tile, dirty, stamp_of, tile_rect
from easelwork.tiles import made_pixels, needed, tiles_on

MOST_SIDE = 16
MOST_ROOM = 100000


class Kept:
    """Tiles of one history, kept by their names (number, level, i, j, u)."""

    def __init__(self, side, *, room=40):
        if not 1 <= side <= MOST_SIDE:
            raise BadValue("side")
        _check_room(room)
        self.side = side
        self._room = room
        self._painted = 0
        # From each name to the tuple of the parts of the name and the block, the last one used at the end.
        self._tiles = {}

    @property
    def room(self):
        """How many tiles are kept at most."""
        return self._room

    @room.setter
    def room(self, value):
        _check_room(value)
        self._room = value
        self._drop(len(self._tiles) - value)

    @property
    def painted(self):
        """How many pixels have been made so far."""
        return self._painted

    def __len__(self):
        return len(self._tiles)

    def __iter__(self):
        return iter(self._tiles.values())

    def ask(self, history, state, number, level, i, j):
        """The block of the tile at the state; () if it has no pixels."""
        check_tile(history, state, number, level)
        block = self._tile(history, state, (number, level, i, j))
        # The tiles that a tile is made from stay until it is done, so that none is made twice in one call.
        self._drop(len(self._tiles) - self._room)
        return block

    def throw_out(self, count):
        """Drops this many tiles, or all if fewer are kept."""
        self._drop(count)

    def change_room(self, room):
        """Does the same as assigning to room."""
        self.room = room

    def _drop(self, count):
        """Drops this many of the tiles that were not used for the longest time; none if count is below 0."""
        for name in list(self._tiles)[:max(count, 0)]:
            del self._tiles[name]

    def _tile(self, history, state, tile):
        """The block of a tile (number, level, i, j) that is kept or made now."""
        number, level, i, j = tile
        rect = tile_rect(history.document_at(state), number, level, self.side, i, j)
        if rect is None:
            return ()
        u = stamp_of(history, state, number, level, rect)
        name = tile + (u,)
        if name in self._tiles:
            held = self._tiles.pop(name)
        elif level > 0:
            held = name + (self._halved(history, state, tile),)
        else:
            held = name + (self._made(history, state, tile, u),)
        self._tiles[name] = held
        return held[5]

    def _halved(self, history, state, tile):
        """The block of a tile above level 0, made from four tiles of the level below."""
        number, level, i, j = tile
        rows = []
        for q in (2 * j, 2 * j + 1):
            left = self._tile(history, state, (number, level - 1, 2 * i, q))
            right = self._tile(history, state, (number, level - 1, 2 * i + 1, q))
            rows.extend([row + (right[y] if right else ()) for y, row in enumerate(left)])
        block = half(tuple(rows))
        self._painted += len(block) * len(block[0])
        return block

    def _made(self, history, state, tile, u):
        """The block of a tile of level 0, whose stamp is u."""
        number, _, i, j = tile
        document = history.document_at(state)
        tree = document.layer(number)
        rect = tile_rect(document, number, 0, self.side, i, j)
        region = Region.of([rect])
        before = self._before(history, tile, u, rect)
        if before:
            region = region & dirty(history, u, number)
        tiles = {child[0]: self._tiles_of(history, state, child[0], part) for child, part in needed(tree, region)}
        pixels = made_pixels(tree, region, tiles, self.side)
        self._painted += len(pixels)
        return _filled(rect, before, pixels)

    def _before(self, history, tile, u, rect):
        """The block of the tile at the parent of u, or () if it is not kept or tells nothing about the tile at u."""
        number, level, _, _ = tile
        if dirty(history, u, number).endless:
            return ()
        v = stamp_of(history, history.parent(u), number, level, rect)
        held = self._tiles.get(tile + (v,))
        return held[5] if held else ()

    def _tiles_of(self, history, state, number, region):
        """The dict from (i, j) to the blocks of the tiles of level 0 of the layer that hold a place of the region."""
        return {(i, j): self._tile(history, state, (number, 0, i, j)) for i, j in tiles_on(region, self.side)}


def _check_room(room):
    if not 0 <= room <= MOST_ROOM:
        raise BadValue("room")


def _filled(rect, before, pixels):
    """The block of the rect with these pixels, and with those of the block before at all other places."""
    x0, y0, x1, y1 = rect
    if not before:
        return tuple([tuple([pixels[(x, y)] for x in range(x0, x1)]) for y in range(y0, y1)])
    return tuple([
        tuple([pixels.get((x, y), pixel) for x, pixel in enumerate(row, x0)]) for y, row in enumerate(before, y0)
    ])
