"""How a tile of a layer is made from the tiles of its children."""

from easelwork.areas import areas
from easelwork.layers import active_of, is_effect
from easelwork.needs import needs
from easelwork.pixels import CLEAR
from easelwork.planes import layer_blocks, margin, pixels_of


def needed(tree, region):
    """The pairs of a painted child and the region on which it is needed for the layer on a region."""
    return _needed_of(tree[4], needs(tree, region))


def tiles_on(region, side):
    """The pairs (i, j) of the tiles whose squares hold a place of the region."""
    found = {}
    for x0, y0, x1, y1 in region.rects():
        for j in range(y0 // side, (y1 - 1) // side + 1):
            for i in range(x0 // side, (x1 - 1) // side + 1):
                found[(i, j)] = True
    return list(found)


def made_pixels(tree, region, tiles, side):
    """The table from the places of the region to the pixels of the layer.

    tiles tells for the number of each child that is needed the dict of its blocks by (i, j).
    """
    rects = list(region.rects())
    if len(rects) > 1:
        across, down = margin(tree)
        rects = areas(list(region.places()), across, down)
    blocks = layer_blocks(tree, rects, lambda child, asked: [_read(tiles[child[0]], side, rect) for rect in asked])
    table = pixels_of(rects, blocks)
    return {place: table[place] for place in region.places()}


def _needed_of(children, region):
    out = []
    for child in reversed(active_of(children)):
        if is_effect(child):
            if child[1] == "pass":
                out.extend(_needed_of(child[4], region))
            region = needs(child, region)
        else:
            out.append((child, region))
    return out


def _read(blocks, side, rect):
    """The block of the rect out of the tiles; clear where no tile is at hand, as those pixels are not looked at."""
    x0, y0, x1, y1 = rect
    rows = []
    for y in range(y0, y1):
        j = y // side
        row = []
        for i in range(x0 // side, (x1 - 1) // side + 1):
            left = max(x0 - i * side, 0)
            right = min(x1 - i * side, side)
            if (i, j) in blocks:
                row.extend(blocks[(i, j)][y - j * side][left:right])
            else:
                row.extend([CLEAR] * (right - left))
        rows.append(tuple(row))
    return tuple(rows)
