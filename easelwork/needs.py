"""Where a layer looks at its input, and where its answer may change with it."""

from easelwork.layers import active_of, is_effect
from easelwork.taps import back, look


def needs(tree, region):
    """The region of its input at which the layer looks for its answer on the region."""
    if is_effect(tree):
        left, up, right, down = margins(tree)
        return region.grown(left, up, right, down)
    if tree[1] == "placed":
        return look(tree[3][0], tree[3][1], region)
    if tree[1] == "styled":
        return _styled_reach(tree, region, -1)
    return region


def reach(tree, region):
    """The region on which the answer of the layer may change if its input changes on the region only."""
    if is_effect(tree):
        left, up, right, down = margins(tree)
        return region.grown(right, down, left, up)
    if tree[1] == "placed":
        return back(tree[3][0], tree[3][1], region)
    if tree[1] == "styled":
        return _styled_reach(tree, region, 1)
    return region


def margins(effect):
    """How far an effect looks around each place: to the left, up, to the right and down."""
    kind = effect[1]
    body = effect[3]
    if kind == "kernel":
        weights, (ox, oy), _ = body
        return (ox, oy, len(weights[0]) - 1 - ox, len(weights) - 1 - oy)
    if kind == "blur":
        n = body[0] * body[1]
        return (n, n, n, n)
    if kind == "rank":
        return (body[0], body[1], body[0], body[1])
    # A table looks at the place alone; it has no children.
    return all_margins(effect[4])


def all_margins(children):
    """How far the fold of the children looks at the plane that it is begun with: growing twice adds up."""
    found = [margins(child) for child in active_of(children) if is_effect(child)]
    left, up, right, down = [sum([one[side] for one in found]) for side in range(4)]
    return (left, up, right, down)


def _styled_reach(tree, region, way):
    """The union of the region with those of the shadows, moved this way, and of the rims."""
    shadows, rims = tree[3]
    out = region
    for dx, dy, radius, times, _ in shadows:
        n = radius * times
        out = out | region.moved(way * dx, way * dy).grown(n, n, n, n)
    for radius, _ in rims:
        out = out | region.grown(radius, radius, radius, radius)
    return out
