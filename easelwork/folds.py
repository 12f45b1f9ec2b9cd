"""Folds: planes that children lay over one another or change, one after the other.

A giver is a function of a painted child and a list of rects. It returns the blocks of the plane of the child on
these rects, so whoever calls a fold decides where the planes of the children come from.
"""

from easelwork.arith import mul
from easelwork.kernels import blurred, convolved, ranked
from easelwork.layers import is_active, is_effect
from easelwork.modes import blend, kept
from easelwork.needs import all_margins
from easelwork.pixels import CLEAR, capped, mixed, scale
from easelwork.rects import cut, widened
from easelwork.rows import row_of
from easelwork.tones import Curve, adjusted


def folded(children, rects, giver):
    """The blocks on the rects of the fold of the children, begun with the clear plane."""
    return _begun([(child, False) for child in children], rects, giver)


def stacked(children, rects, giver):
    """The blocks of the fold of a stack: every child but the first one keeps the alpha."""
    return _begun([(child, at > 0) for at, child in enumerate(children)], rects, giver)


def clear_block(rect):
    """The block of the clear plane on a rect."""
    x0, y0, x1, y1 = rect
    return ((CLEAR,) * (x1 - x0),) * (y1 - y0)


def _begun(steps, rects, giver):
    room = all_margins([child for child, _ in steps])
    return _taken(steps, rects, [clear_block(widened(rect, *room)) for rect in rects], giver)


def _taken(steps, rects, blocks, giver):
    """The blocks on the rects that the steps make of a plane.

    A step is a pair of a child and whether it keeps the alpha. The given blocks are those of the plane on the rects,
    which are wider by the margins of all active effects; each effect makes the blocks smaller by its own margin.
    """
    active = [(child, keeps) for child, keeps in steps if is_active(child)]
    room = all_margins([child for child, _ in active])
    wide = [widened(rect, *room) for rect in rects]
    for at, (child, keeps) in enumerate(active):
        room = all_margins([later for later, _ in active[at + 1:]])
        narrow = [widened(rect, *room) for rect in rects]
        shares = _shares(child, narrow)
        if is_effect(child):
            made = _effect(child, blocks, narrow, giver)
            blocks = [cut(block, rect, part) for block, rect, part in zip(blocks, wide, narrow)]
            blocks = [_changed(one, keeps) for one in zip(blocks, made, shares)]
        else:
            made = giver(child, narrow)
            blocks = [_laid(child[2][0], keeps, one) for one in zip(blocks, made, shares)]
        wide = narrow
    return blocks


def _shares(child, rects):
    """How strongly the child counts at each place of each rect: rows of numbers from 0 to 255."""
    opacity, mask = child[2][1:3]
    if mask is None:
        return [[[opacity] * (x1 - x0)] * (y1 - y0) for x0, y0, x1, y1 in rects]
    return [
        [[mul(opacity, k) for k in row_of(mask, y, x0, x1, 0)] for y in range(y0, y1)] for x0, y0, x1, y1 in rects
    ]


def _laid(mode, keeps, parts):
    """The block with another one laid over it, where parts are the block, the other one and the shares."""
    lay = kept if keeps else blend
    return tuple([
        tuple([_one_laid(lay, mode, s, d, k) for d, s, k in zip(*rows)]) for rows in zip(*parts)
    ])


def _one_laid(lay, mode, s, d, k):
    # In every mode a clear pixel leaves what is below it.
    if k == 0 or s == CLEAR:
        return d
    return lay(mode, s if k == 255 else scale(s, k), d)


def _changed(parts, keeps):
    """The block on the way to what an effect made of it, where parts are the block, the other one and the shares."""
    return tuple([
        tuple([_one_changed(d, f, k, keeps) for d, f, k in zip(*rows)]) for rows in zip(*parts)
    ])


def _one_changed(d, f, k, keeps):
    return mixed(d, capped(f, d[3]) if keeps else f, k)


def _effect(effect, blocks, rects, giver):
    """The blocks on the rects of the plane that an effect makes of a plane, given by its blocks on wider rects."""
    kind = effect[1]
    body = effect[3]
    if kind == "pass":
        return _taken([(child, False) for child in effect[4]], rects, blocks, giver)
    if kind == "table":
        return _adjusted_blocks(body, blocks)
    if kind == "kernel":
        return [convolved(block, body[0], body[2]) for block in blocks]
    if kind == "blur":
        return [blurred(block, body[0], body[1]) for block in blocks]
    return [ranked(block, body[0], body[1], body[2]) for block in blocks]


def _adjusted_blocks(points, blocks):
    red, green, blue = [Curve(one) for one in points]
    return [tuple([tuple([adjusted(pixel, red, green, blue) for pixel in row]) for row in block]) for block in blocks]
