"""Rects: tuples (x0, y0, x1, y1), and the blocks that belong to them."""


def overlap(a, b):
    """The rect of the places that are in both rects, or None."""
    x0 = max(a[0], b[0])
    y0 = max(a[1], b[1])
    x1 = min(a[2], b[2])
    y1 = min(a[3], b[3])
    if x0 < x1 and y0 < y1:
        return (x0, y0, x1, y1)
    return None


def widened(rect, left, up, right, down):
    """The rect with its four sides moved outward."""
    x0, y0, x1, y1 = rect
    return (x0 - left, y0 - up, x1 + right, y1 + down)


def around(rects):
    """The smallest rect that holds all the rects, or None without rects."""
    if not rects:
        return None
    return (
        min([rect[0] for rect in rects]),
        min([rect[1] for rect in rects]),
        max([rect[2] for rect in rects]),
        max([rect[3] for rect in rects]),
    )


def around_places(places):
    """The smallest rect that holds all the places, or None without places."""
    if not places:
        return None
    across = [place[0] for place in places]
    down = [place[1] for place in places]
    return (min(across), min(down), max(across) + 1, max(down) + 1)


def holds(rect, x, y):
    """True if the place (x, y) is in the rect."""
    x0, y0, x1, y1 = rect
    return x0 <= x < x1 and y0 <= y < y1


def cut(block, rect, part):
    """The block of part, a rect within rect, out of the block of rect."""
    x0, y0, x1, y1 = part
    left, up = rect[0], rect[1]
    return tuple([row[x0 - left:x1 - left] for row in block[y0 - up:y1 - up]])
