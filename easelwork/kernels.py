"""Effects that make each pixel of those around it; they take a block and return a smaller one."""

from easelwork.arith import hold, mean
from easelwork.errors import BadValue
from easelwork.pixels import capped
from easelwork.sliding import flipped, highest, lowest, sums


def convolved(block, weights, divisor):
    """The block of the weighted sums around each pixel, divided and rounded."""
    _check_size(block, len(weights[0]), len(weights))
    wide = len(block[0]) - len(weights[0]) + 1
    high = len(block) - len(weights) + 1
    terms = [(u, v, weight) for v, row in enumerate(weights) for u, weight in enumerate(row) if weight != 0]
    totals = [_totals(plane, terms, wide, high) for plane in _planes(block)]
    half = divisor // 2
    found = _block_of([[[hold((t + half) // divisor, 0, 255) for t in row] for row in plane] for plane in totals])
    return tuple([tuple([capped(pixel, pixel[3]) for pixel in row]) for row in found])


def blurred(block, radius, times):
    """The block of the means over squares, taken several times."""
    _check_size(block, 2 * radius * times + 1, 2 * radius * times + 1)
    size = 2 * radius + 1
    planes = _planes(block)
    for _ in range(times):
        planes = [_means(plane, size) for plane in planes]
    return _block_of(planes)


def ranked(block, across, down, which):
    """The block of the least, middle or greatest values around each pixel."""
    wide = 2 * across + 1
    high = 2 * down + 1
    _check_size(block, wide, high)
    if which == "middle":
        return _block_of([_middles(plane, wide, high) for plane in _planes(block)])
    if which == "least":
        return _block_of([_lows(plane, wide, high) for plane in _planes(block)])
    return _block_of([_highs(plane, wide, high) for plane in _planes(block)])


def _check_size(block, wide, high):
    """Raises BadValue unless the block has at least this size."""
    if len(block) < high or len(block[0]) < wide:
        raise BadValue("block")


def _planes(block):
    """The four parts of the pixels of a block, each as rows of numbers."""
    return [[[pixel[part] for pixel in row] for row in block] for part in range(4)]


def _block_of(planes):
    """The block whose pixels have their four parts in the four planes."""
    red, green, blue, alpha = planes
    return tuple([tuple(zip(red[j], green[j], blue[j], alpha[j])) for j in range(len(alpha))])


def _totals(plane, terms, wide, high):
    """The weighted sums of a plane, each over the pixels that the terms (u, v, weight) look at."""
    out = []
    for j in range(high):
        totals = [0] * wide
        for u, v, weight in terms:
            totals = [total + weight * part for total, part in zip(totals, plane[j + v][u:u + wide])]
        out.append(totals)
    return out


def _means(plane, size):
    """The means of a plane over all squares of this size."""
    columns = flipped([sums(row, size) for row in plane])
    return flipped([[mean(total, size * size) for total in sums(column, size)] for column in columns])


def _lows(plane, wide, high):
    columns = flipped([lowest(row, wide) for row in plane])
    return flipped([lowest(column, high) for column in columns])


def _highs(plane, wide, high):
    columns = flipped([highest(row, wide) for row in plane])
    return flipped([highest(column, high) for column in columns])


def _middles(plane, wide, high):
    """The middle of the values in each window of a plane."""
    at = wide * high // 2
    return [[_sorted_window(plane, i, j, wide, high)[at] for i in range(len(plane[0]) - wide + 1)]
            for j in range(len(plane) - high + 1)]


def _sorted_window(plane, i, j, wide, high):
    return sorted([part for row in plane[j:j + high] for part in row[i:i + wide]])
