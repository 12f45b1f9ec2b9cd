"""Views: which part of a picture a screen shows, and how far it is enlarged."""

from easelwork.errors import BadValue
from easelwork.levels import last_level
from easelwork.plain import whole

# What a screen shows where the picture has no pixel.
BACK = (96, 96, 96, 255)

# The ranges of the six integers of a view.
RANGES = ((1, 64), (1, 64), (1, 16), (1, 16), (-4096, 4096), (-4096, 4096))


def check_view(view):
    """Raises BadValue unless the view is in range."""
    if len(view) != len(RANGES):
        raise BadValue("view")
    for number, (low, high) in zip(view, RANGES):
        if not low <= number <= high:
            raise BadValue("view")


def view_level(wide, high, view):
    """The level of a canvas of this size that the view shows."""
    _, _, num, den, _, _ = view
    level = 0
    last = last_level(wide, high)
    while level < last and num << (level + 1) <= den:
        level += 1
    return level


def source(view, level, a, b):
    """The place of the level that stands at the place (a, b) of the screen."""
    _, _, num, den, ox, oy = view
    by = num << level
    return ((a + ox) * den // by, (b + oy) * den // by)


def shown(document, view):
    """The block of the screen, computed from the document alone."""
    wide, high = view[:2]
    level = view_level(document.wide, document.high, view)
    block = whole(document, level)
    return tuple([tuple([_pixel(block, source(view, level, a, b)) for a in range(wide)]) for b in range(high)])


def screen_rects(view, level, region):
    """The rects of the places of the screen whose sources lie in the region."""
    wide, high, num, den, ox, oy = view
    by = num << level
    out = []
    for x0, y0, x1, y1 in region.rects():
        a0, a1 = _screen_span(x0 * by, x1 * by, den, ox, wide)
        b0, b1 = _screen_span(y0 * by, y1 * by, den, oy, high)
        if a0 < a1 and b0 < b1:
            out.append((a0, b0, a1, b1))
    return out


def _pixel(block, place):
    x, y = place
    if 0 <= y < len(block) and 0 <= x < len(block[0]):
        return block[y][x]
    return BACK


def _screen_span(first, last, den, offset, size):
    """The range of the numbers on the screen for which first <= (number + offset) * den < last."""
    # -(-n // den) is n / den, rounded up.
    return (max(-(-first // den) - offset, 0), min(-(-last // den) - offset, size))
