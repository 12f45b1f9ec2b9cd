"""Outlines and polygons, and how much of a pixel they cover."""

STEPS = 8


def chords(outline):
    """The polygon of an outline, in 64ths of its unit."""
    out = []
    for point, following in zip(outline, outline[1:] + outline[:1]):
        if len(point) == 2:
            out.append((64 * point[0], 64 * point[1]))
        else:
            x, y, hx, hy = point
            out.extend([(_bent(x, hx, following[0], i), _bent(y, hy, following[1], i)) for i in range(STEPS)])
    return tuple(out)


def winding(polygons, x, y):
    """How often the polygons go around the point (x, y)."""
    total = 0
    for x0, y0, x1, y1 in _edges(polygons):
        if y0 <= y < y1 and (x1 - x0) * (y - y0) - (x - x0) * (y1 - y0) > 0:
            total += 1
        elif y1 <= y < y0 and (x0 - x1) * (y - y1) - (x - x1) * (y0 - y1) > 0:
            total -= 1
    return total


def covered(polygons, unit, rule, x, y):
    """How many of the 16 samples of the pixel (x, y) lie inside."""
    return covered_rows(polygons, unit, rule, ((x, y, x + 1, y + 1),))[0][0][0]


def covered_rows(polygons, unit, rule, rects):
    """For each rect the rows of how many samples of each pixel lie inside."""
    if not rects:
        return []
    # Samples lie in lines, four to a row of pixels, and so do they in columns.
    first = 4 * min([rect[1] for rect in rects])
    last = 4 * max([rect[3] for rect in rects])
    crossings = _crossings(polygons, unit, first, last)
    runs = {line: _inside_runs(crossings[line], rule) for line in crossings}
    return [_counted(runs, rect) for rect in rects]


def bounds_of(polygons, unit):
    """The rect of pixels around all points, or None if there is no point."""
    points = [point for polygon in polygons for point in polygon]
    if not points:
        return None
    across = [x for x, _ in points]
    down = [y for _, y in points]
    return (min(across) // unit, min(down) // unit, max(across) // unit + 1, max(down) // unit + 1)


def sample_alpha(n):
    """The alpha for n of 16 samples."""
    return (255 * n + 8) // 16


def _bent(start, handle, finish, i):
    """The i-th of the points of a bend, in one coordinate."""
    rest = STEPS - i
    return rest * rest * start + 2 * i * rest * handle + i * i * finish


def _edges(polygons):
    """The lines of the polygons: (x0, y0, x1, y1) from each point to the next."""
    return [
        (x0, y0, x1, y1)
        for polygon in polygons for (x0, y0), (x1, y1) in zip(polygon, polygon[1:] + polygon[:1])
    ]


def _crossings(polygons, unit, first, last):
    """For each line of samples that edges cross: the pairs (column, step).

    An edge adds its step to the winding of the samples in all columns ahead of this column.
    """
    gap = unit // 4
    half = unit // 8
    found = {}
    for x0, y0, x1, y1 in _edges(polygons):
        step = 1
        if y1 < y0:
            x0, y0, x1, y1, step = x1, y1, x0, y0, -1
        # The line of samples s is at s * gap + half. A division that rounds up is one of the negative number.
        for s in range(max(first, -((half - y0) // gap)), min(last, -((half - y1) // gap))):
            limit = x0 - ((x0 - x1) * (s * gap + half - y0)) // (y1 - y0)
            found.setdefault(s, []).append((-((half - limit) // gap), step))
    return found


def _inside_runs(crossings, rule):
    """The runs of the columns of samples that lie inside."""
    ordered = sorted(crossings)
    out = []
    around = 0
    for (column, step), (following, _) in zip(ordered, ordered[1:]):
        around -= step
        inside = around & 1 if rule == "odd" else around
        if inside != 0 and column < following:
            out.append((column, following))
    return out


def _counted(runs, rect):
    """The rows of how many samples of each pixel of the rect lie in the runs."""
    x0, y0, x1, y1 = rect
    rows = []
    for y in range(y0, y1):
        row = [0] * (x1 - x0)
        for s in range(4 * y, 4 * y + 4):
            for begin, end in runs.get(s, ()):
                for t in range(max(begin, 4 * x0), min(end, 4 * x1)):
                    row[t // 4 - x0] += 1
        rows.append(row)
    return rows
