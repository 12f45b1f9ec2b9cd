"""Layers and documents that several tests make for themselves, always the same ones."""

from making import some_colors, some_pixels, some_spots

from easelwork.documents import Document
from easelwork.layers import layer, walk
from easelwork.modes import MODES

LEAVES = ("paint", "paint", "solid", "ramp", "shape", "text")
PLAIN_EFFECTS = ("table", "kernel", "blur", "rank")
PAINTED_HOLDERS = ("group", "stack", "placed", "styled")


def color(chance):
    return some_colors(1, chance.randint(0, 10 ** 6))[0]


def mask(chance, rect=(-2, -2, 8, 8)):
    """None, the empty coverage or a coverage."""
    if chance.randint(0, 2):
        return None
    if chance.randint(0, 3) == 0:
        return ()
    x0, y0, x1, y1 = rect
    spots = [(x, y, k) for x, y, k in some_spots(chance, rect, 6) if k > 0]
    return tuple(sorted(spots, key=lambda spot: (spot[1], spot[0])))


def spots(chance, rect=(-2, -2, 8, 8), share=4):
    x0, y0, x1, y1 = rect
    pixels = [pixel for pixel in some_pixels(40, chance.randint(0, 10 ** 6)) if pixel[3] > 0]
    return tuple((x, y, chance.choice(pixels)) for y in range(y0, y1) for x in range(x0, x1)
                 if chance.randint(0, 9) < share)


def outline(chance, low=-32, high=160):
    return tuple(tuple(chance.randint(low, high) for _ in range(chance.choice((2, 2, 4))))
                 for _ in range(chance.choice((2, 3, 3, 4, 5))))


def font(chance):
    glyphs = []
    for sign in "ab~"[:2] + "z":
        shapes = tuple(outline(chance, -8, 60) for _ in range(chance.randint(0, 2)))
        glyphs.append((sign, chance.randint(0, 64), shapes))
    return (chance.randint(1, 64), tuple(glyphs))


def curve(chance):
    xs = sorted({0, 255} | {chance.randint(1, 254) for _ in range(chance.randint(0, 4))})
    return tuple((x, chance.randint(0, 255)) for x in xs)


def matrix(chance, most=2):
    """A matrix whose factors are at most this great."""
    while True:
        n = chance.choice((1, 1, 2, 3, 4, 7))
        a, b, d, e = [chance.choice((0, n, -n, chance.randint(-most * n, most * n))) for _ in range(4)]
        if a * e - b * d:
            return (a, b, chance.randint(-6 * n, 6 * n), d, e, chance.randint(-6 * n, 6 * n), n)


def body(chance, kind):
    """Values for all own fields of the kind, in range and small."""
    if kind == "paint":
        return {"spots": spots(chance)}
    if kind == "solid":
        return {"color": color(chance)}
    if kind == "ramp":
        start = (chance.randint(-3, 8), chance.randint(-3, 8))
        finish = chance.choice((start, (chance.randint(-3, 8), chance.randint(-3, 8))))
        return {"manner": chance.choice(("line", "ring")), "start": start, "finish": finish,
                "first": color(chance), "second": color(chance)}
    if kind == "shape":
        return {"outlines": tuple(outline(chance) for _ in range(chance.randint(0, 3))),
                "rule": chance.choice(("odd", "wind")), "color": color(chance)}
    if kind == "text":
        return {"font": font(chance), "scale": chance.randint(1, 32), "words": chance.choice(("ab z", " a  bb", "")),
                "place": (chance.randint(-40, 60), chance.randint(-40, 60)), "color": color(chance),
                "room": chance.randint(0, 120), "gap": chance.randint(0, 64),
                "side": chance.choice(("left", "middle", "right"))}
    if kind == "placed":
        return {"matrix": matrix(chance), "manner": chance.choice(("near", "smooth"))}
    if kind == "styled":
        return {"shadows": tuple((chance.randint(-4, 4), chance.randint(-4, 4), chance.randint(0, 2),
                                  chance.randint(1, 2), color(chance)) for _ in range(chance.randint(0, 2))),
                "rims": tuple((chance.randint(0, 2), color(chance)) for _ in range(chance.randint(0, 2)))}
    if kind == "table":
        return {"red": curve(chance), "green": curve(chance), "blue": curve(chance)}
    if kind == "kernel":
        wide, high = chance.randint(1, 3), chance.randint(1, 3)
        return {"weights": tuple(tuple(chance.randint(-3, 5) for _ in range(wide)) for _ in range(high)),
                "origin": (chance.randint(0, wide - 1), chance.randint(0, high - 1)),
                "divisor": chance.randint(1, 9)}
    if kind == "blur":
        return {"radius": chance.randint(0, 2), "times": chance.randint(1, 2)}
    if kind == "rank":
        return {"across": chance.randint(0, 2), "down": chance.randint(0, 1),
                "which": chance.choice(("least", "middle", "greatest"))}
    return {}


def head(chance):
    return {"mode": chance.choice(MODES), "opacity": chance.choice((0, 255, 255, 255, chance.randint(0, 255))),
            "mask": mask(chance), "shown": chance.randint(0, 9) > 0, "name": chance.choice(("", "x y"))}


class Numbers:
    """Numbers for layers, each given once."""

    def __init__(self, first=1):
        self.last = first - 1

    def fresh(self):
        self.last += 1
        return self.last


def tree(chance, kind, deep, numbers, wide=3, kinds=None):
    """A layer of the kind, with up to this many children; holders stand at most this deep in it."""
    children = ()
    if kind in PAINTED_HOLDERS or kind == "pass":
        children = some_children(chance, deep - 1, numbers, wide, kinds)
    return layer(numbers.fresh(), kind, *children, **head(chance), **body(chance, kind))


def some_children(chance, deep, numbers, wide=3, kinds=None):
    """A tuple of layers of all kinds."""
    words = kinds or (LEAVES + PLAIN_EFFECTS + ((PAINTED_HOLDERS + ("pass",)) if deep > 0 else ()))
    if kinds and deep <= 0:
        words = [kind for kind in kinds if kind not in PAINTED_HOLDERS + ("pass",)]
    return tuple(tree(chance, chance.choice(words), deep, numbers, wide, kinds)
                 for _ in range(chance.randint(0, wide)))


def document(chance, wide=5, high=4, deep=2, kinds=None):
    """A small document with a few layers of many kinds."""
    while True:
        children = some_children(chance, deep, Numbers(), 4, kinds)
        root = layer(0, "group", *children, **head(chance))
        if len(list(walk(root))) <= 40:
            return Document(wide, high, root, chosen=mask(chance))
