"""The ranges that the fields of the layers of a document keep to."""

from easelwork.errors import BadValue
from easelwork.layers import FIELDS, HEAD, field
from easelwork.modes import MODES
from easelwork.pixels import CLEAR, is_pixel
from easelwork.signs import is_plain, may_stand
from easelwork.tones import are_points

MOST_SPOTS = 4096

NUMBERS = {
    "opacity": (0, 255),
    "scale": (1, 64),
    "room": (0, 4096),
    "gap": (0, 64),
    "divisor": (1, 4096),
    "radius": (0, 6),
    "times": (1, 3),
    "across": (0, 3),
    "down": (0, 3),
}
WORDS = {
    "rule": ("odd", "wind"),
    "side": ("left", "middle", "right"),
    "which": ("least", "middle", "greatest"),
}
MANNERS = {"ramp": ("line", "ring"), "placed": ("near", "smooth")}


def check_fields(tree):
    """Raises BadValue for the first field of a layer that is out of range."""
    for name in HEAD + FIELDS[tree[1]]:
        if not fits(tree, name):
            raise BadValue(name)


def fits(tree, name):
    """True if the value of this field is in range, where the fields ahead of it are."""
    value = field(tree, name)
    if name in NUMBERS:
        low, high = NUMBERS[name]
        return low <= value <= high
    if name in WORDS:
        return value in WORDS[name]
    if name == "manner":
        return value in MANNERS[tree[1]]
    if name == "words":
        return _are_words(value, field(tree, "font"))
    if name == "origin":
        return _is_origin(value, field(tree, "weights"))
    check = CHECKS[name]
    return check(value)


def is_coverage(value):
    """True for a coverage in the range of a mask or a selection."""
    return are_spread(value) and all([1 <= k <= 255 for _, _, k in value])


def are_spread(items):
    """True for (x, y, any) with few enough places, all in range, ascending and none twice."""
    if len(items) > MOST_SPOTS or any([len(item) != 3 for item in items]):
        return False
    if not are_near([(x, y) for x, y, _ in items]):
        return False
    return all([(a[1], a[0]) < (b[1], b[0]) for a, b in zip(items, items[1:])])


def are_near(places):
    """True if all these places are in the range of masks, spots and selections."""
    return all([-128 <= x <= 191 and -128 <= y <= 191 for x, y in places])


def _are_within(numbers, count, low, high):
    """True for a tuple of this many integers that all are in the range."""
    return len(numbers) == count and all([low <= n <= high for n in numbers])


def _is_mode(value):
    return value in MODES


def _is_mask(value):
    return value is None or is_coverage(value)


def _is_flag(value):
    return value is True or value is False


def _is_name(value):
    return len(value) <= 24 and is_plain(value)


def _are_spots(value):
    return are_spread(value) and all([is_pixel(pixel) and pixel != CLEAR for _, _, pixel in value])


def _is_color(value):
    return _are_within(value, 4, 0, 255)


def _is_end(value):
    """True for the start or the finish of a ramp."""
    return _are_within(value, 2, -512, 512)


def _is_position(value):
    """True for the place of a text."""
    return _are_within(value, 2, -2048, 3072)


def _are_outlines(value, most):
    return len(value) <= most and all([_is_outline(outline) for outline in value])


def _is_outline(outline):
    if not 2 <= len(outline) <= 24:
        return False
    return all([len(point) in (2, 4) and _are_within(point, len(point), -2048, 3072) for point in outline])


def _is_drawing(value):
    """True for the outlines of a shape."""
    return _are_outlines(value, 8)


def _is_font(value):
    if len(value) != 2:
        return False
    blank, glyphs = value
    if not 1 <= blank <= 64 or len(glyphs) > 64:
        return False
    if not all([_is_glyph(glyph) for glyph in glyphs]):
        return False
    return all([a[0] < b[0] for a, b in zip(glyphs, glyphs[1:])])


def _is_glyph(glyph):
    if len(glyph) != 3:
        return False
    sign, advance, outlines = glyph
    if len(sign) != 1 or sign == " " or not may_stand(sign):
        return False
    return 0 <= advance <= 64 and _are_outlines(outlines, 6)


def _are_words(value, font):
    signs = [glyph[0] for glyph in font[1]]
    return len(value) <= 48 and all([sign == " " or sign in signs for sign in value])


def _is_matrix(value):
    if len(value) != 7:
        return False
    a, b, c, d, e, f, n = value
    if not 1 <= n <= 64:
        return False
    if not _are_within((a, b, d, e), 4, -4 * n, 4 * n) or not _are_within((c, f), 2, -4096, 4096):
        return False
    return a * e - b * d != 0


def _are_shadows(value):
    return len(value) <= 3 and all([_is_shadow(shadow) for shadow in value])


def _is_shadow(shadow):
    if len(shadow) != 5:
        return False
    dx, dy, radius, times, color = shadow
    if not _are_within((dx, dy), 2, -32, 32):
        return False
    return 0 <= radius <= 6 and 1 <= times <= 3 and _is_color(color)


def _are_rims(value):
    return len(value) <= 3 and all([len(rim) == 2 and 0 <= rim[0] <= 6 and _is_color(rim[1]) for rim in value])


def _is_curve(value):
    """True for the points of a curve."""
    return are_points(value)


def _are_weights(value):
    if not 1 <= len(value) <= 9:
        return False
    wide = len(value[0])
    return 1 <= wide <= 9 and all([_are_within(row, wide, -64, 64) for row in value])


def _is_origin(value, weights):
    if len(value) != 2:
        return False
    return 0 <= value[0] < len(weights[0]) and 0 <= value[1] < len(weights)


# The fields whose range depends on nothing else.
CHECKS = {
    "mode": _is_mode,
    "mask": _is_mask,
    "shown": _is_flag,
    "name": _is_name,
    "spots": _are_spots,
    "color": _is_color,
    "start": _is_end,
    "finish": _is_end,
    "first": _is_color,
    "second": _is_color,
    "outlines": _is_drawing,
    "font": _is_font,
    "place": _is_position,
    "matrix": _is_matrix,
    "shadows": _are_shadows,
    "rims": _are_rims,
    "red": _is_curve,
    "green": _is_curve,
    "blue": _is_curve,
    "weights": _are_weights,
}
