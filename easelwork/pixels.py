"""Pixels: tuples (r, g, b, a) whose color parts are multiplied by the alpha already."""

from easelwork.arith import mix, mul

CLEAR = (0, 0, 0, 0)


def is_pixel(thing):
    """True if any value at all is a pixel."""
    if not isinstance(thing, tuple) or len(thing) != 4:
        return False
    for part in thing:
        # True and False are ints to Python, but no numbers of a pixel.
        if isinstance(part, bool) or not isinstance(part, int):
            return False
    r, g, b, a = thing
    return 0 <= r <= a and 0 <= g <= a and 0 <= b <= a and a <= 255


def scale(pixel, k):
    """The pixel with each part multiplied by k / 255."""
    r, g, b, a = pixel
    return (mul(r, k), mul(g, k), mul(b, k), mul(a, k))


def ink(color):
    """The pixel of a straight color."""
    red, green, blue, alpha = color
    return (mul(red, alpha), mul(green, alpha), mul(blue, alpha), alpha)


def mixed(d, f, k):
    """The pixel on the way from d at k = 0 to f at k = 255."""
    return (mix(d[0], f[0], k), mix(d[1], f[1], k), mix(d[2], f[2], k), mix(d[3], f[3], k))


def capped(pixel, a):
    """The color parts, none greater than a, with the alpha a."""
    return (min(pixel[0], a), min(pixel[1], a), min(pixel[2], a), a)
