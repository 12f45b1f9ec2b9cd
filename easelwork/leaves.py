"""The planes of the painted layers that hold no others."""

from easelwork.outlines import chords, covered_rows, sample_alpha
from easelwork.pixels import CLEAR, ink, scale
from easelwork.ramps import ramp_pixel
from easelwork.rows import row_of
from easelwork.texts import text_polygons


def leaf_blocks(tree, rects):
    """The blocks of the plane of the layer on the rects."""
    kind = tree[1]
    body = tree[3]
    if kind == "paint":
        return [_paint_block(body[0], rect) for rect in rects]
    if kind == "ramp":
        return [_ramp_block(body, rect) for rect in rects]
    if kind == "solid":
        return [((ink(body[0]),) * (x1 - x0),) * (y1 - y0) for x0, y0, x1, y1 in rects]
    counts = covered_rows(shape_polygons(tree), shape_unit(tree), _rule(tree), rects)
    color = body[4] if kind == "text" else body[2]
    inks = [scale(ink(color), sample_alpha(n)) for n in range(17)]
    return [tuple([tuple([inks[n] for n in row]) for row in rows]) for rows in counts]


def shape_polygons(tree):
    """The polygons of a shape or of a text."""
    if tree[1] == "shape":
        return tuple([chords(outline) for outline in tree[3][0]])
    font, size, place, words, _, room, gap, side = tree[3]
    return text_polygons(font, size, place, words, room, gap, side)


def shape_unit(tree):
    """The unit of the polygons of a shape or of a text."""
    return 1024 if tree[1] == "shape" else 16384


def _rule(tree):
    return tree[3][1] if tree[1] == "shape" else "wind"


def _paint_block(spots, rect):
    x0, y0, x1, y1 = rect
    return tuple([tuple(row_of(spots, y, x0, x1, CLEAR)) for y in range(y0, y1)])


def _ramp_block(body, rect):
    manner, start, finish, first, second = body
    x0, y0, x1, y1 = rect
    return tuple([
        tuple([ramp_pixel(manner, start, finish, first, second, x, y) for x in range(x0, x1)]) for y in range(y0, y1)
    ])
