"""The account of points 35 to 38, word by word: dirty regions, stamps, and the counts of a Kept that drops nothing."""

import slow

from easelwork.differ import differ
from easelwork.layers import layer_of
from easelwork.levels import level_size
from easelwork.needs import needs
from easelwork.regions import Region

EVERYTHING = Region.everything()


def held(document, number):
    return layer_of(document.root, number) if number in document.numbers() else None


def dirty(history, state, number):
    if state == 0:
        return EVERYTHING
    new = history.document_at(state)
    old = history.document_at(list(history)[state][1])
    before = held(old, number)
    if before is None or before[1] in slow.EFFECTS:
        return EVERYTHING
    if number == 0 and (old.wide, old.high) != (new.wide, new.high):
        return EVERYTHING
    region = differ(before, held(new, number))
    return region & Region.of([(0, 0, new.wide, new.high)]) if number == 0 else region


def tile_places(document, number, level, side, i, j):
    """The places of a tile, row by row."""
    wide, high = level_size(document.wide, document.high, level)
    return [(x, y) for y in range(j * side, (j + 1) * side) for x in range(i * side, (i + 1) * side)
            if number != 0 or (0 <= x < wide and 0 <= y < high)]


def is_touched(region, level, places):
    """True if the region, halved as often as the level says, holds one of the places."""
    return any(region.meets((x << level, y << level, (x + 1) << level, (y + 1) << level)) for x, y in places)


def stamp(history, state, number, level, side, i, j):
    places = tile_places(history.document_at(state), number, level, side, i, j)
    for u in reversed(history.road(state)):
        region = dirty(history, u, number)
        if u == 0 or region == EVERYTHING or is_touched(region, level, places):
            return u
    return None


def needed(tree, region):
    """The pairs of a painted child and the region on which it is needed."""
    return needed_of(tree[4], needs(tree, region))


def needed_of(children, region):
    out = []
    for child in reversed([child for child in children if slow.active(child)]):
        if child[1] not in slow.EFFECTS:
            out.append((child, region))
            continue
        if child[1] == "pass":
            out.extend(needed_of(child[4], region))
        region = needs(child, region)
    return out


class Counted:
    """The names of the tiles that are kept, and how many pixels were made for them, if none is dropped."""

    def __init__(self, side):
        self.side = side
        self.names = set()
        self.painted = 0

    def ask(self, history, state, number, level, i, j):
        document = history.document_at(state)
        places = tile_places(document, number, level, self.side, i, j)
        if not places:
            return
        u = stamp(history, state, number, level, self.side, i, j)
        if (number, level, i, j, u) in self.names:
            return
        if level > 0:
            self.painted += len(places)
            for p in (0, 1):
                for q in (0, 1):
                    self.ask(history, state, 0, level - 1, 2 * i + p, 2 * j + q)
        else:
            self.make(history, state, number, i, j, places, u)
        self.names.add((number, level, i, j, u))

    def make(self, history, state, number, i, j, places, u):
        region = dirty(history, u, number)
        if region != EVERYTHING:
            v = list(history)[u][1]
            if (number, 0, i, j, stamp(history, v, number, 0, self.side, i, j)) in self.names:
                places = [place for place in places if place in region]
        self.painted += len(places)
        asked = Region.of([(x, y, x + 1, y + 1) for x, y in places])
        tree = held(history.document_at(state), number)
        for child, part in needed(tree, asked):
            tiles = {(x // self.side, y // self.side) for x, y in part.places()}
            for k, m in sorted(tiles):
                self.ask(history, state, child[0], 0, k, m)


class Pixels:
    """The pixels of the tiles of a history, as points 26 and 27 define them; each plane is kept."""

    def __init__(self, history):
        self.history = history
        self.planes = {}
        self.levels = {}

    def plane(self, state, number):
        if (state, number) not in self.planes:
            self.planes[state, number] = slow.plane(held(self.history.document_at(state), number))
        return self.planes[state, number]

    def level(self, state, level):
        if (state, level) not in self.levels:
            document = self.history.document_at(state)
            if level == 0:
                block = self.plane(state, 0).block(0, 0, document.wide, document.high)
            else:
                block = slow.half(self.level(state, level - 1))
            self.levels[state, level] = block
        return self.levels[state, level]

    def tile(self, state, number, level, side, i, j):
        if number != 0:
            return self.plane(state, number).block(i * side, j * side, (i + 1) * side, (j + 1) * side)
        block = self.level(state, level)
        rows = [row[max(i * side, 0):max((i + 1) * side, 0)] for row in block[max(j * side, 0):max((j + 1) * side, 0)]]
        return tuple(row for row in rows if row)
