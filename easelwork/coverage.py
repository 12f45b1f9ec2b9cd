"""Coverages: a value from 0 to 255 at every place, 0 at all but finitely many."""

from easelwork.arith import mean
from easelwork.rects import around_places
from easelwork.sliding import flipped, highest, lowest, padded, sums


class Coverage:
    """A coverage, kept as its spots (x, y, k) and as a table from places to values."""

    def __init__(self, spots):
        ordered = sorted([(y, x, k) for x, y, k in spots if k > 0])
        self.spots = tuple([(x, y, k) for y, x, k in ordered])
        self._table = {(x, y): k for y, x, k in ordered}

    @classmethod
    def of_rect(cls, rect, k):
        """The coverage with the value k at each place of the rect."""
        x0, y0, x1, y1 = rect
        return cls([(x, y, k) for y in range(y0, y1) for x in range(x0, x1)])

    @classmethod
    def of_alpha(cls, block, x0, y0):
        """The coverage of the alphas of a block whose first pixel is at (x0, y0)."""
        return cls([(x0 + i, y0 + j, pixel[3]) for j, row in enumerate(block) for i, pixel in enumerate(row)])

    def __eq__(self, other):
        return isinstance(other, Coverage) and self.spots == other.spots

    def __bool__(self):
        return bool(self.spots)

    def __or__(self, other):
        mine = [(x, y, max(k, other._table.get((x, y), 0))) for x, y, k in self.spots]
        return Coverage(mine + [(x, y, k) for x, y, k in other.spots if (x, y) not in self._table])

    def __and__(self, other):
        return Coverage([(x, y, min(k, other._table.get((x, y), 0))) for x, y, k in self.spots])

    def __sub__(self, other):
        return Coverage([(x, y, min(k, 255 - other._table.get((x, y), 0))) for x, y, k in self.spots])

    def at(self, x, y):
        """The value at the place (x, y)."""
        return self._table.get((x, y), 0)

    def box(self):
        """The smallest rect around the places of the spots, or None without spots."""
        return around_places(self.spots)

    def turned(self, rect):
        """The coverage with 255 minus the value at each place of the rect."""
        return _of_rows([[255 - k for k in row] for row in _rows(self._table, rect)], rect)

    def grown(self, radius, rect):
        """The coverage with the greatest value around each place of the rect."""
        size = 2 * radius + 1
        wide = [highest(padded(row, radius), size) for row in _rows(self._table, rect)]
        return _of_rows(flipped([highest(padded(column, radius), size) for column in flipped(wide)]), rect)

    def shrunk(self, radius, rect):
        """The coverage with the least value around each place of the rect."""
        size = 2 * radius + 1
        wide = [lowest(padded(row, radius), size) for row in _rows(self._table, rect)]
        return _of_rows(flipped([lowest(padded(column, radius), size) for column in flipped(wide)]), rect)

    def feathered(self, radius, rect):
        """The coverage with the mean of the values around each place of the rect."""
        size = 2 * radius + 1
        wide = [sums(padded(row, radius), size) for row in _rows(self._table, rect)]
        totals = flipped([sums(padded(column, radius), size) for column in flipped(wide)])
        return _of_rows([[mean(total, size * size) for total in row] for row in totals], rect)

    def hardened(self, least):
        """The coverage with 255 where the value is at least this great, else 0."""
        return Coverage([(x, y, 255) for x, y, k in self.spots if k >= least])


def _rows(table, rect):
    """The values at the places of the rect, row by row."""
    x0, y0, x1, y1 = rect
    return [[table.get((x, y), 0) for x in range(x0, x1)] for y in range(y0, y1)]


def _of_rows(rows, rect):
    """The coverage with the values of the rows at the places of the rect."""
    return Coverage([(rect[0] + i, rect[1] + j, k) for j, row in enumerate(rows) for i, k in enumerate(row)])
