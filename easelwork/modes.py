"""The modes by which one pixel is laid over another."""

from easelwork.arith import mul, near
from easelwork.errors import BadValue
from easelwork.pixels import scale

MODES = (
    "over", "multiply", "screen", "darken", "lighten", "difference", "exclusion",
    "hard", "overlay", "subtract", "plus", "atop", "erase",
)


def _over(s, d, sa, da):
    return s * da


def _multiply(s, d, sa, da):
    return s * d


def _screen(s, d, sa, da):
    return s * da + d * sa - s * d


def _darken(s, d, sa, da):
    return min(s * da, d * sa)


def _lighten(s, d, sa, da):
    return max(s * da, d * sa)


def _difference(s, d, sa, da):
    return abs(s * da - d * sa)


def _exclusion(s, d, sa, da):
    return s * da + d * sa - 2 * s * d


def _hard(s, d, sa, da):
    if 2 * s <= sa:
        return 2 * s * d
    return sa * da - 2 * (da - d) * (sa - s)


def _overlay(s, d, sa, da):
    # overlay is hard with the two pixels exchanged.
    return _hard(d, s, da, sa)


def _subtract(s, d, sa, da):
    return max(d * sa - s * da, 0)


# The number K of each of the first ten modes, for one color part.
SHARED = {
    "over": _over,
    "multiply": _multiply,
    "screen": _screen,
    "darken": _darken,
    "lighten": _lighten,
    "difference": _difference,
    "exclusion": _exclusion,
    "hard": _hard,
    "overlay": _overlay,
    "subtract": _subtract,
}


def _check_mode(mode):
    if mode not in MODES:
        raise BadValue("mode")


def _atop(s, d):
    rest = 255 - s[3]
    da = d[3]
    r, g, b = [near(s[part] * da + d[part] * rest) for part in range(3)]
    return (r, g, b, da)


def blend(mode, s, d):
    """The pixel s laid over the pixel d."""
    _check_mode(mode)
    if mode == "plus":
        return (min(255, s[0] + d[0]), min(255, s[1] + d[1]), min(255, s[2] + d[2]), min(255, s[3] + d[3]))
    if mode == "atop":
        return _atop(s, d)
    if mode == "erase":
        return scale(d, 255 - s[3])
    shared = SHARED[mode]
    sa = s[3]
    da = d[3]
    r, g, b = [
        near(s[part] * (255 - da) + d[part] * (255 - sa) + shared(s[part], d[part], sa, da)) for part in range(3)
    ]
    return (r, g, b, near(255 * sa + da * (255 - sa)))


def _kept_part(mode, s, d, sa, da):
    if mode == "plus":
        return min(da, near(255 * d + s * da))
    if mode == "erase":
        return mul(d, 255 - sa)
    shared = SHARED[mode]
    return near(d * (255 - sa) + shared(s, d, sa, da))


def kept(mode, s, d):
    """The pixel s laid over the pixel d, with the alpha of d."""
    _check_mode(mode)
    if mode == "atop":
        return _atop(s, d)
    sa = s[3]
    da = d[3]
    r, g, b = [_kept_part(mode, s[part], d[part], sa, da) for part in range(3)]
    return (r, g, b, da)
