"""Levels: blocks that are halved again and again."""

from easelwork.arith import mean


def half(block):
    """The block at half size."""
    return tuple([_half_row(block[j:j + 2]) for j in range(0, len(block), 2)])


def level_size(wide, high, level):
    """The size of a level of a picture of this size."""
    for _ in range(level):
        wide = (wide + 1) // 2
        high = (high + 1) // 2
    return (wide, high)


def last_level(wide, high):
    """The least level that is a single pixel."""
    level = 0
    while (wide, high) != (1, 1):
        wide, high = level_size(wide, high, 1)
        level += 1
    return level


def level_of(block, level):
    """The block, halved as often as the level says."""
    for _ in range(level):
        block = half(block)
    return block


def _half_row(rows):
    """The row that is made of one row or of two."""
    return tuple([_joined([pixel for row in rows for pixel in row[i:i + 2]]) for i in range(0, len(rows[0]), 2)])


def _joined(pixels):
    """The pixel that is the mean of one, two or four pixels."""
    r, g, b, a = [mean(sum([pixel[part] for pixel in pixels]), len(pixels)) for part in range(4)]
    return (r, g, b, a)
