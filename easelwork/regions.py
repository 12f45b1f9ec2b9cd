"""Regions: sets of places, kept as bands of runs in one form."""

from easelwork.errors import EndlessRegion

# Truth tables: whether a place stays that is in neither, the second only, the first only, both.
EITHER = (False, True, True, True)
BOTH = (False, False, False, True)
FIRST_ONLY = (False, False, True, False)


def _joined(runs):
    """The runs in any order, made into ascending runs that do not touch."""
    out = []
    for x0, x1 in sorted(runs):
        if out and x0 <= out[-1][1]:
            out[-1] = (out[-1][0], max(x1, out[-1][1]))
        else:
            out.append((x0, x1))
    return tuple(out)


def _crossed_runs(a, b, table):
    """The runs of the numbers that the table lets stay."""
    if not b:
        return a if table[2] else ()
    if not a:
        return b if table[1] else ()
    first = [x for run in a for x in run]
    second = [x for run in b for x in run]
    i = 0
    j = 0
    edges = []
    # An odd count of passed ends means inside, as the ends of separate runs alternate.
    while i < len(first) or j < len(second):
        if j == len(second) or (i < len(first) and first[i] <= second[j]):
            x = first[i]
        else:
            x = second[j]
        if i < len(first) and first[i] == x:
            i += 1
        if j < len(second) and second[j] == x:
            j += 1
        if table[2 * (i & 1) + (j & 1)] != bool(len(edges) & 1):
            edges.append(x)
    return tuple([(edges[k], edges[k + 1]) for k in range(0, len(edges), 2)])


def _crossed(a, b, table):
    """The bands of the places that the table lets stay."""
    edges = sorted({y for band in a + b for y in band[:2]})
    i = 0
    j = 0
    out = []
    for y0, y1 in zip(edges, edges[1:]):
        while i < len(a) and a[i][1] <= y0:
            i += 1
        while j < len(b) and b[j][1] <= y0:
            j += 1
        first = a[i][2] if i < len(a) and a[i][0] <= y0 else ()
        second = b[j][2] if j < len(b) and b[j][0] <= y0 else ()
        runs = _crossed_runs(first, second, table)
        if out and out[-1][1] == y0 and out[-1][2] == runs:
            out[-1] = (out[-1][0], y1, runs)
        elif runs:
            out.append((y0, y1, runs))
    return tuple(out)


def _united(bands):
    """The one form of bands that may overlap, each with runs in any order."""
    parts = [((y0, y1, _joined(runs)),) for y0, y1, runs in sorted(bands)]
    # Neighbours are united pair by pair, so each band goes through few of the unions.
    while len(parts) > 1:
        pairs = [_crossed(parts[k], parts[k + 1], EITHER) for k in range(0, len(parts) - 1, 2)]
        parts = pairs + parts[2 * len(pairs):]
    return parts[0] if parts else ()


class Region:
    """A finite set of places, or everything."""

    def __init__(self, endless, bands):
        self.endless = endless
        self.bands = bands

    @classmethod
    def of(cls, rects):
        """The region of the places that are in at least one of the rects."""
        rows = {}
        for x0, y0, x1, y1 in rects:
            rows.setdefault((y0, y1), []).append((x0, x1))
        return cls(False, _united([(y0, y1, tuple(runs)) for (y0, y1), runs in rows.items()]))

    @classmethod
    def empty(cls):
        """The region without places."""
        return cls(False, ())

    @classmethod
    def everything(cls):
        """The region of all places."""
        return cls(True, ())

    def __eq__(self, other):
        return isinstance(other, Region) and self.endless == other.endless and self.bands == other.bands

    def __bool__(self):
        return bool(self.endless or self.bands)

    def __contains__(self, x):
        if self.endless:
            return True
        across, down = x
        for y0, y1, runs in self.bands:
            if y0 <= down < y1:
                return any([x0 <= across < x1 for x0, x1 in runs])
        return False

    def __or__(self, other):
        if self.endless or other.endless:
            return Region(True, ())
        return Region(False, _crossed(self.bands, other.bands, EITHER))

    def __and__(self, other):
        if self.endless:
            return Region(other.endless, other.bands)
        if other.endless:
            return Region(False, self.bands)
        return Region(False, _crossed(self.bands, other.bands, BOTH))

    def __sub__(self, other):
        if other.endless:
            return Region(False, ())
        if self.endless and other.bands:
            raise EndlessRegion()
        return Region(self.endless, _crossed(self.bands, other.bands, FIRST_ONLY))

    def grown(self, left, up, right, down):
        """The region of all places that a place of the region reaches by so many steps."""
        return Region(self.endless, _united([
            (y0 - up, y1 + down, tuple([(x0 - left, x1 + right) for x0, x1 in runs]))
            for y0, y1, runs in self.bands
        ]))

    def moved(self, dx, dy):
        """The region with every place moved."""
        return Region(self.endless, tuple([
            (y0 + dy, y1 + dy, tuple([(x0 + dx, x1 + dx) for x0, x1 in runs])) for y0, y1, runs in self.bands
        ]))

    def halved(self):
        """The region of the places at half size that the places of the region fall into."""
        return Region(self.endless, _united([
            (y0 // 2, (y1 + 1) // 2, tuple([(x0 // 2, (x1 + 1) // 2) for x0, x1 in runs]))
            for y0, y1, runs in self.bands
        ]))

    def doubled(self):
        """The region at double size: four places for each place."""
        return Region(self.endless, tuple([
            (2 * y0, 2 * y1, tuple([(2 * x0, 2 * x1) for x0, x1 in runs])) for y0, y1, runs in self.bands
        ]))

    def meets(self, rect):
        """True if the region and the rect have a place in common."""
        if self.endless:
            return True
        left, up, right, down = rect
        for y0, y1, runs in self.bands:
            if y0 < down and up < y1 and any([x0 < right and left < x1 for x0, x1 in runs]):
                return True
        return False

    def box(self):
        """The smallest rect that holds the region, or None if it is empty."""
        if self.endless:
            raise EndlessRegion()
        if not self.bands:
            return None
        x0 = min([band[2][0][0] for band in self.bands])
        x1 = max([band[2][-1][1] for band in self.bands])
        return (x0, self.bands[0][0], x1, self.bands[-1][1])

    def rects(self):
        """The tuple of one rect for each run of each band."""
        if self.endless:
            raise EndlessRegion()
        return tuple([(x0, y0, x1, y1) for y0, y1, runs in self.bands for x0, x1 in runs])

    def places(self):
        """Yields the places one by one, row by row."""
        if self.endless:
            raise EndlessRegion()
        for y0, y1, runs in self.bands:
            for y in range(y0, y1):
                for x0, x1 in runs:
                    for x in range(x0, x1):
                        yield (x, y)
