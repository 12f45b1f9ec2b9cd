"""Regions outside which layers are clear, or change nothing."""

from easelwork.errors import BadPlace
from easelwork.layers import active_of, is_active, is_effect
from easelwork.leaves import shape_polygons, shape_unit
from easelwork.needs import reach
from easelwork.outlines import bounds_of
from easelwork.rects import around_places
from easelwork.regions import Region
from easelwork.taps import back


def box(tree):
    """A region outside which the plane of a painted layer is clear."""
    if is_effect(tree):
        raise BadPlace()
    kind = tree[1]
    body = tree[3]
    if kind == "group":
        return content(tree[4], Region.empty())
    if kind == "stack":
        return content(tree[4][:1], Region.empty())
    if kind == "placed":
        return back(body[0], body[1], content(tree[4], Region.empty()))
    if kind == "styled":
        return _styled_box(body, content(tree[4], Region.empty()))
    return _leaf_box(tree)


def span(tree):
    """A region outside which a child leaves the plane made so far as it is."""
    if not is_active(tree):
        return Region.empty()
    if not is_effect(tree):
        return box(tree) & mask_region(tree)
    if tree[1] != "pass":
        return mask_region(tree)
    out = Region.empty()
    for child in tree[4]:
        out = out | span(child)
    return out & mask_region(tree)


def mask_region(tree):
    """Everything without a mask, else the smallest rect around the places of the mask."""
    mask = tree[2][2]
    if mask is None:
        return Region.everything()
    return _around(mask)


def content(children, region):
    """A region outside which the fold is clear if it is begun with a plane that is clear outside the given one."""
    for child in active_of(children):
        region = region | (_left_by(child, region) & mask_region(child))
    return region


def _left_by(child, region):
    """What a child without a mask may leave, where the plane below it is clear outside the region."""
    if not is_effect(child):
        return box(child)
    if child[1] == "pass":
        return content(child[4], region)
    return reach(child, region)


def _around(places):
    """The region of the smallest rect around the places; empty without places."""
    rect = around_places(places)
    return Region.of([rect]) if rect else Region.empty()


def _leaf_box(tree):
    kind = tree[1]
    body = tree[3]
    if kind == "paint":
        return _around(body[0])
    if kind == "solid":
        return _everything_if(body[0][3] > 0)
    if kind == "ramp":
        return _everything_if(body[3][3] > 0 or body[4][3] > 0)
    color = body[4] if kind == "text" else body[2]
    rect = bounds_of(shape_polygons(tree), shape_unit(tree)) if color[3] > 0 else None
    return Region.of([rect]) if rect else Region.empty()


def _everything_if(seen):
    return Region.everything() if seen else Region.empty()


def _styled_box(body, inner):
    """The union of the content with those of its shadows and rims that can be seen."""
    shadows, rims = body
    out = inner
    for dx, dy, radius, times, color in shadows:
        if color[3] > 0:
            n = radius * times
            out = out | inner.moved(dx, dy).grown(n, n, n, n)
    for radius, _ in rims:
        out = out | inner.grown(radius, radius, radius, radius)
    return out
