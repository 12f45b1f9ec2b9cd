"""Regions outside which two layers, two folds or two pictures are equal."""

from easelwork.boxes import box, mask_region, span
from easelwork.layers import is_active, is_effect
from easelwork.needs import reach
from easelwork.regions import Region


def pairs(olds, news):
    """The pairs of indexes of the children that stand for each other."""
    lengths = _lengths(olds, news)
    out = []
    i = 0
    j = 0
    while i < len(olds) and j < len(news):
        if _match(olds[i], news[j]):
            out.append((i, j))
            i += 1
            j += 1
        elif lengths[i + 1][j] >= lengths[i][j + 1]:
            i += 1
        else:
            j += 1
    return tuple(out)


def differ(old, new):
    """A region outside which the planes of two painted layers are equal."""
    if old[1] != new[1]:
        return box(old) | box(new)
    if old[3:] == new[3:]:
        return Region.empty()
    kind = new[1]
    if kind == "paint":
        return _unlike(old[3][0], new[3][0])
    if kind == "group":
        return between(old[4], new[4], Region.empty())
    if kind == "stack":
        return _stack_differ(old, new)
    if kind in ("placed", "styled") and old[3] == new[3]:
        inner = between(old[4], new[4], Region.empty())
        # The reach of a placed layer is what looks back at the region.
        return reach(new, inner)
    return box(old) | box(new)


def between(olds, news, region):
    """A region outside which two folds are equal that are begun with planes equal outside the given region."""
    i0 = -1
    j0 = -1
    for i, j in pairs(olds, news):
        region = _with_spans(region, olds[i0 + 1:i] + news[j0 + 1:j])
        region = _pair_region(olds[i], news[j], region)
        i0 = i
        j0 = j
    return _with_spans(region, olds[i0 + 1:] + news[j0 + 1:])


def picture_differ(old, new):
    """A region outside which the pictures of two documents are equal."""
    if old.wide != new.wide or old.high != new.high:
        return Region.everything()
    return differ(old.root, new.root)


def _match(old, new):
    """True if the two children may stand for each other."""
    if old[0] != new[0] or is_effect(old) != is_effect(new):
        return False
    return not is_effect(old) or old[1] == new[1]


def _lengths(olds, news):
    """The table L of how many pairs can be found from the indexes i and j on."""
    rows = [[0] * (len(news) + 1)]
    for old in reversed(olds):
        below = rows[-1]
        row = [0]
        for j in range(len(news) - 1, -1, -1):
            row.append(1 + below[j + 1] if _match(old, news[j]) else max(below[j], row[-1]))
        rows.append(row[::-1])
    return rows[::-1]


def _with_spans(region, children):
    for child in children:
        region = region | span(child)
    return region


def _unlike(olds, news):
    """The region of the places at which two tuples of (x, y, thing) hold unlike things, or only one holds any."""
    same = _shared(olds, news)
    olds = olds[same:][::-1]
    news = news[same:][::-1]
    same = _shared(olds, news)
    first = {(x, y): thing for x, y, thing in olds[same:]}
    second = {(x, y): thing for x, y, thing in news[same:]}
    places = [place for place in first if place not in second]
    places.extend([place for place in second if place not in first or first[place] != second[place]])
    return Region.of([(x, y, x + 1, y + 1) for x, y in places])


def _shared(olds, news):
    """How many items the two begin with in common; mostly only a few are not."""
    count = 0
    for old, new in zip(olds, news):
        if old != new:
            break
        count += 1
    return count


def _stack_differ(old, new):
    boxes = box(old) | box(new)
    if not old[4] or not new[4] or not _match(old[4][0], new[4][0]):
        return boxes
    first = between(old[4][:1], new[4][:1], Region.empty())
    return between(old[4][1:], new[4][1:], first) & boxes


def _pair_region(e, f, region):
    """The region after two children that stand for each other."""
    if not is_active(e) and not is_active(f):
        return region
    if is_active(e) != is_active(f) or e[2][1] != f[2][1]:
        return region | span(e) | span(f)
    masks = mask_region(e) | mask_region(f)
    masked = _mask_change(e[2][2], f[2][2])
    if not is_effect(e):
        if e[2][0] != f[2][0]:
            return region | span(e) | span(f)
        region = region | (differ(e, f) & masks)
        return region | (masked & (box(e) | box(f))) if masked else region
    if e[1] == "pass":
        return region | (between(e[4], f[4], region) & masks) | masked
    if e[3] == f[3]:
        return region | (reach(f, region) & masks) | masked
    return region | span(e) | span(f)


def _mask_change(old, new):
    """The region of the places at which two masks are unlike."""
    if old == new:
        return Region.empty()
    if old is None or new is None:
        return Region.everything()
    return _unlike(old, new)
