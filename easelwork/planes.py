"""The planes of painted layers, as blocks on rects anywhere."""

from easelwork.areas import areas
from easelwork.arith import mul
from easelwork.folds import clear_block, folded, stacked
from easelwork.kernels import blurred, ranked
from easelwork.layers import active_of, is_effect
from easelwork.leaves import leaf_blocks
from easelwork.modes import blend
from easelwork.needs import all_margins, margins
from easelwork.pixels import ink, scale
from easelwork.rects import around, cut, widened
from easelwork.taps import WHOLE, tapped, taps


def plane_blocks(tree, rects):
    """The blocks of the plane of a painted layer on the rects."""
    return layer_blocks(tree, rects, plane_blocks)


def layer_blocks(tree, rects, giver):
    """The same, where the giver gives the blocks of the planes of the painted children."""
    kind = tree[1]
    if kind == "group":
        return folded(tree[4], rects, giver)
    if kind == "stack":
        return stacked(tree[4], rects, giver)
    if kind == "placed":
        return _placed(tree, rects, giver)
    if kind == "styled":
        return _styled(tree, rects, giver)
    return leaf_blocks(tree, rects)


def _placed(tree, rects, giver):
    if not active_of(tree[4]):
        return [clear_block(rect) for rect in rects]
    matrix, manner = tree[3]
    tapped_rows = [
        [[taps(matrix, manner, x, y) for x in range(x0, x1)] for y in range(y0, y1)] for x0, y0, x1, y1 in rects
    ]
    places = list({(i, j): True for rows in tapped_rows for row in rows for tap in row for i, j, _ in tap})
    across, down = _spread(tree[4])
    looked = areas(places, across, down)
    pixels = pixels_of(looked, folded(tree[4], looked, giver))
    return [tuple([tuple([_read(tap, pixels) for tap in row]) for row in rows]) for rows in tapped_rows]


def margin(tree):
    """How many columns and rows more than a rect has are made of its children for the plane of the layer on it."""
    if tree[1] == "placed":
        return (0, 0)
    left, up, right, down = all_margins(tree[4])
    if tree[1] == "styled":
        x0, y0, x1, y1 = _styled_rect(tree[3], (0, 0, 1, 1))
        return (left + right + x1 - x0 - 1, up + down + y1 - y0 - 1)
    return (left + right, up + down)


def pixels_of(rects, blocks):
    """The table from the places of all rects to the pixels of their blocks."""
    return {
        (rect[0] + i, rect[1] + j): pixel
        for rect, block in zip(rects, blocks) for j, row in enumerate(block) for i, pixel in enumerate(row)
    }


def _read(tap, pixels):
    """The pixel that the taps of one place are made into."""
    if tap[0][2] == WHOLE:
        return pixels[tap[0][:2]]
    return tapped([(pixels[(i, j)], weight) for i, j, weight in tap])


def _spread(children):
    """How many columns and rows more than one the fold of the children looks at for one place.

    What placed layers look at is left out: it is scattered and has no margin.
    """
    across = 0
    down = 0
    inner = (0, 0)
    for child in reversed(active_of(children)):
        more = _spread(child[4]) if child[1] != "placed" else (0, 0)
        if child[1] == "styled":
            x0, y0, x1, y1 = _styled_rect(child[3], (0, 0, 1, 1))
            more = (more[0] + x1 - x0 - 1, more[1] + y1 - y0 - 1)
        inner = (max(inner[0], across + more[0]), max(inner[1], down + more[1]))
        if is_effect(child):
            left, up, right, low = margins(child)
            across += left + right
            down += up + low
    return (max(across, inner[0]), max(down, inner[1]))


def _styled(tree, rects, giver):
    wide = [_styled_rect(tree[3], rect) for rect in rects]
    blocks = folded(tree[4], wide, giver)
    return [_styled_block(tree[3], rect, held, block) for rect, held, block in zip(rects, wide, blocks)]


def _styled_rect(body, rect):
    """The smallest rect around all places at which a styled layer looks for its answer on a rect."""
    shadows, rims = body
    looked = [_shadow_rect(shadow, rect) for shadow in shadows]
    looked.extend([widened(rect, radius, radius, radius, radius) for radius, _ in rims])
    return around([rect] + looked)


def _shadow_rect(shadow, rect):
    """The rect at which a shadow looks."""
    dx, dy, radius, times, _ = shadow
    n = radius * times
    x0, y0, x1, y1 = rect
    return widened((x0 - dx, y0 - dy, x1 - dx, y1 - dy), n, n, n, n)


def _styled_block(body, rect, held, block):
    """The block of a styled layer on a rect, made of the block of its fold on the rect that it looks at."""
    shadows, rims = body
    plane = cut(block, held, rect)
    out = clear_block(rect)
    for shadow in shadows:
        soft = blurred(cut(block, held, _shadow_rect(shadow, rect)), shadow[2], shadow[3])
        out = _tinted(out, shadow[4], [[pixel[3] for pixel in row] for row in soft])
    out = tuple([tuple([blend("over", s, d) for s, d in zip(*rows)]) for rows in zip(plane, out)])
    for radius, color in rims:
        wide = ranked(cut(block, held, widened(rect, radius, radius, radius, radius)), radius, radius, "greatest")
        shares = [[mul(g[3], 255 - p[3]) for g, p in zip(*rows)] for rows in zip(wide, plane)]
        out = _tinted(out, color, shares)
    return out


def _tinted(block, color, shares):
    """The block with a color laid over it, by shares from 0 to 255."""
    top = ink(color)
    return tuple([tuple([blend("over", scale(top, k), d) for d, k in zip(*rows)]) for rows in zip(block, shares)])
