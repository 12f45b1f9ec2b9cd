"""Inputs that several tests make for themselves, always the same ones."""

from random import Random

from easelwork.errors import EaselError

EDGE_PARTS = (0, 1, 2, 63, 64, 126, 127, 128, 191, 254, 255)
BIG = 10 ** 30


def some_pixels(count, seed):
    """Pixels with all kinds of alphas, the clear one and opaque ones among them."""
    chance = Random(seed)
    out = [(0, 0, 0, 0), (255, 255, 255, 255), (0, 0, 0, 255), (0, 0, 0, 1), (1, 1, 1, 1), (254, 0, 127, 254)]
    while len(out) < count:
        a = chance.choice((0, 1, 2, 127, 128, 254, 255, chance.randint(0, 255)))
        out.append(tuple(chance.choice((0, a, chance.randint(0, a))) for _ in range(3)) + (a,))
    return out


def some_colors(count, seed):
    chance = Random(seed)
    return [tuple(chance.choice((0, 255, chance.randint(0, 255))) for _ in range(4)) for _ in range(count)]


def pixel_block(chance, wide, high):
    """A block of pixels with a few clear and a few opaque ones."""
    pixels = some_pixels(wide * high + 6, chance.randint(0, 10 ** 6))
    chance.shuffle(pixels)
    return tuple(tuple(pixels[j * wide:(j + 1) * wide]) for j in range(high))


def some_rects(chance, count, low, high):
    """Rects whose numbers lie from low to high; they overlap, touch or lie apart."""
    out = []
    for _ in range(count):
        x0, x1 = sorted(chance.sample(range(low, high + 1), 2))
        y0, y1 = sorted(chance.sample(range(low, high + 1), 2))
        out.append((x0, y0, x1, y1))
    return out


def places_of(rects):
    """The set of the places of some rects, one by one."""
    return {(x, y) for x0, y0, x1, y1 in rects for y in range(y0, y1) for x in range(x0, x1)}


def some_spots(chance, rect, share):
    """A list of (x, y, k) at about this share (in tenths) of the places of a rect, in no order."""
    x0, y0, x1, y1 = rect
    out = []
    for y in range(y0, y1):
        for x in range(x0, x1):
            if chance.randint(0, 9) < share:
                out.append((x, y, chance.choice((0, 1, 127, 128, 254, 255, chance.randint(0, 255)))))
    chance.shuffle(out)
    return out


def refusal(call, *arguments, **keywords):
    """What a call is refused with: the name of the error class and the error's attribute, if it has one."""
    try:
        call(*arguments, **keywords)
    except EaselError as error:
        return (type(error).__name__,) + tuple(vars(error).values())
    return None
