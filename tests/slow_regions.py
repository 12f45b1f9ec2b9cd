"""The regions of points 29, 30, 33 and 34, word by word as the document defines them."""

import slow

from easelwork.regions import Region
from easelwork.taps import back, look

EFFECTS = ("pass", "table", "kernel", "blur", "rank")
EMPTY = Region.of(())
ALL = Region.everything()


def active(tree):
    return tree[2][3] and tree[2][1] > 0


def needs(tree, region):
    kind, body = tree[1], tree[3]
    if kind == "kernel":
        (ox, oy), w, h = body[1], len(body[0][0]), len(body[0])
        return region.grown(ox, oy, w - 1 - ox, h - 1 - oy)
    if kind == "blur":
        return region.grown(*[body[0] * body[1]] * 4)
    if kind == "rank":
        return region.grown(body[0], body[1], body[0], body[1])
    if kind == "pass":
        for child in reversed(tree[4]):
            if active(child) and child[1] in EFFECTS:
                region = needs(child, region)
        return region
    if kind == "placed":
        return look(*body, region)
    if kind == "styled":
        out = region
        for dx, dy, radius, times, _ in body[0]:
            out |= region.moved(-dx, -dy).grown(*[radius * times] * 4)
        for radius, _ in body[1]:
            out |= region.grown(*[radius] * 4)
        return out
    return region


def reach(tree, region):
    kind, body = tree[1], tree[3]
    if kind == "kernel":
        (ox, oy), w, h = body[1], len(body[0][0]), len(body[0])
        return region.grown(w - 1 - ox, h - 1 - oy, ox, oy)
    if kind in ("blur", "rank"):
        return needs(tree, region)
    if kind == "pass":
        for child in tree[4]:
            if active(child) and child[1] in EFFECTS:
                region = reach(child, region)
        return region
    if kind == "placed":
        return back(*body, region)
    if kind == "styled":
        out = region
        for dx, dy, radius, times, _ in body[0]:
            out |= region.moved(dx, dy).grown(*[radius * times] * 4)
        for radius, _ in body[1]:
            out |= region.grown(*[radius] * 4)
        return out
    return region


def rect_around(items):
    if not items:
        return EMPTY
    xs, ys = [item[0] for item in items], [item[1] for item in items]
    return Region.of([(min(xs), min(ys), max(xs) + 1, max(ys) + 1)])


def mask_region(tree):
    return ALL if tree[2][2] is None else rect_around(tree[2][2])


def content(children, region):
    for child in children:
        if not active(child):
            continue
        if child[1] in ("kernel", "blur", "rank"):
            region |= reach(child, region) & mask_region(child)
        elif child[1] == "pass":
            region |= content(child[4], region) & mask_region(child)
        elif child[1] != "table":
            region |= box(child) & mask_region(child)
    return region


def bounds(polygons, unit):
    return rect_around([(x // unit, y // unit) for polygon in polygons for x, y in polygon])


def box(tree):
    kind, body, children = tree[1], tree[3], tree[4]
    if kind == "paint":
        return rect_around(body[0])
    if kind == "solid":
        return EMPTY if body[0][3] == 0 else ALL
    if kind == "ramp":
        return EMPTY if body[3][3] == 0 and body[4][3] == 0 else ALL
    if kind == "shape":
        return EMPTY if body[2][3] == 0 else bounds([slow.chords(outline) for outline in body[0]], 1024)
    if kind == "text":
        return EMPTY if body[4][3] == 0 else bounds(slow.text_polygons(*body[:4], *body[5:]), 16384)
    if kind == "group":
        return content(children, EMPTY)
    if kind == "stack":
        return content(children[:1], EMPTY)
    inner = content(children, EMPTY)
    if kind == "placed":
        return back(*body, inner)
    out = inner
    for dx, dy, radius, times, color in body[0]:
        if color[3] > 0:
            out |= inner.moved(dx, dy).grown(*[radius * times] * 4)
    for radius, _ in body[1]:
        out |= inner.grown(*[radius] * 4)
    return out


def span(tree):
    if not active(tree):
        return EMPTY
    if tree[1] == "pass":
        out = EMPTY
        for child in tree[4]:
            out |= span(child)
        return out & mask_region(tree)
    if tree[1] in EFFECTS:
        return mask_region(tree)
    return box(tree) & mask_region(tree)


def match(old, new):
    if old[0] != new[0]:
        return False
    if old[1] in EFFECTS or new[1] in EFFECTS:
        return old[1] == new[1]
    return True


def pairs(olds, news):
    known = {}

    def most(i, j):
        if (i, j) not in known:
            if i == len(olds) or j == len(news):
                known[i, j] = 0
            elif match(olds[i], news[j]):
                known[i, j] = 1 + most(i + 1, j + 1)
            else:
                known[i, j] = max(most(i + 1, j), most(i, j + 1))
        return known[i, j]
    out = []
    i = j = 0
    while i < len(olds) and j < len(news):
        if match(olds[i], news[j]):
            out.append((i, j))
            i, j = i + 1, j + 1
        elif most(i + 1, j) >= most(i, j + 1):
            i += 1
        else:
            j += 1
    return tuple(out)


def unlike(olds, news, nothing):
    first, second = [{item[:2]: item[2] for item in items} for items in (olds, news)]
    return Region.of([(x, y, x + 1, y + 1) for x, y in set(first) | set(second)
                      if first.get((x, y), nothing) != second.get((x, y), nothing)])


def differ(old, new):
    if (old[1], old[3], old[4]) == (new[1], new[3], new[4]):
        return EMPTY
    boxes = box(old) | box(new)
    if old[1] != new[1]:
        return boxes
    kind = old[1]
    if kind == "paint":
        return unlike(old[3][0], new[3][0], (0, 0, 0, 0))
    if kind == "group":
        return between(old[4], new[4], EMPTY)
    if kind == "stack":
        if old[4] and new[4] and match(old[4][0], new[4][0]):
            region = between((old[4][0],), (new[4][0],), EMPTY)
            return between(old[4][1:], new[4][1:], region) & boxes
        return boxes
    if kind == "placed" and old[3] == new[3]:
        return back(*old[3], between(old[4], new[4], EMPTY))
    if kind == "styled" and old[3] == new[3]:
        return reach(new, between(old[4], new[4], EMPTY))
    return boxes


def between(olds, news, region):
    before = (-1, -1)
    for i, j in pairs(olds, news) + ((len(olds), len(news)),):
        for child in olds[before[0] + 1:i] + news[before[1] + 1:j]:
            region |= span(child)
        if (i, j) != (len(olds), len(news)):
            region = paired(olds[i], news[j], region)
        before = (i, j)
    return region


def paired(e, f, region):
    m = mask_region(e) | mask_region(f)
    masks = (e[2][2], f[2][2])
    c = EMPTY if masks[0] == masks[1] else ALL if None in masks else unlike(*masks, 0)
    if not active(e) and not active(f):
        return region
    is_painted = e[1] not in EFFECTS
    if active(e) != active(f) or e[2][1] != f[2][1] or (is_painted and e[2][0] != f[2][0]):
        return region | span(e) | span(f)
    if is_painted:
        return region | (differ(e, f) & m) | (c & (box(e) | box(f)))
    if e[1] == "pass":
        return region | (between(e[4], f[4], region) & m) | c
    if e[3] == f[3]:
        return region | (reach(f, region) & m) | c
    return region | span(e) | span(f)
