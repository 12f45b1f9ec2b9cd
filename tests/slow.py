"""The meaning of layers as points 18 to 27 tell it: pixel by pixel, slowly, and apart from the package's own ways.

Only the parts of points 4 to 7 and 13 to 16 are taken from the package; they have tests of their own.
"""

from easelwork.modes import blend, kept
from easelwork.pixels import CLEAR, capped, ink, mixed, scale
from easelwork.kernels import blurred, convolved, ranked
from easelwork.taps import tapped, taps
from easelwork.tones import Curve, adjusted

EFFECTS = ("pass", "table", "kernel", "blur", "rank")


def isqrt(n):
    low, high = 0, n + 1
    while high - low > 1:
        middle = (low + high) // 2
        if middle * middle <= n:
            low = middle
        else:
            high = middle
    return low


def chords(outline):
    out = []
    for k, point in enumerate(outline):
        x, y = point[:2]
        q = outline[(k + 1) % len(outline)]
        if len(point) == 2:
            out.append((64 * x, 64 * y))
            continue
        hx, hy = point[2:]
        for i in range(8):
            out.append(((8 - i) * (8 - i) * x + 2 * i * (8 - i) * hx + i * i * q[0],
                        (8 - i) * (8 - i) * y + 2 * i * (8 - i) * hy + i * i * q[1]))
    return tuple(out)


def winding(polygons, x, y):
    total = 0
    for polygon in polygons:
        for k, (x0, y0) in enumerate(polygon):
            x1, y1 = polygon[(k + 1) % len(polygon)]
            if y0 <= y < y1 and (x1 - x0) * (y - y0) - (x - x0) * (y1 - y0) > 0:
                total += 1
            if y1 <= y < y0 and (x0 - x1) * (y - y1) - (x - x1) * (y0 - y1) > 0:
                total -= 1
    return total


def covered(polygons, unit, rule, x, y):
    count = 0
    for v in range(4):
        for u in range(4):
            wound = winding(polygons, x * unit + (4 * u + 2) * unit // 16, y * unit + (4 * v + 2) * unit // 16)
            if (wound % 2 == 1) if rule == "odd" else (wound != 0):
                count += 1
    return count


def lines(font, words, scale_, room):
    blank, glyphs = font
    advance = {glyph[0]: glyph[1] for glyph in glyphs}

    def wide(line):
        return (sum(advance[sign] for word in line for sign in word) + blank * (len(line) - 1)) * scale_
    out = []
    for word in [part for part in words.split(" ") if part != ""]:
        if out and wide(out[-1] + [word]) <= 16 * room:
            out[-1] = out[-1] + [word]
        else:
            out.append([word])
    return tuple(map(tuple, out))


def glyph_places(font, words, scale_, room, gap, side):
    blank, glyphs = font
    advance = {glyph[0]: glyph[1] for glyph in glyphs}
    out = []
    for i, line in enumerate(lines(font, words, scale_, room)):
        text = " ".join(line)
        total = sum(blank if sign == " " else advance[sign] for sign in text) * scale_
        start = {"left": 0, "middle": (16 * room - total) // 2, "right": 16 * room - total}[side]
        for k, sign in enumerate(text):
            if sign != " ":
                ahead = sum(blank if other == " " else advance[other] for other in text[:k])
                out.append((sign, start + ahead * scale_, gap * i * scale_))
    return tuple(out)


def text_polygons(font, scale_, place, words, room, gap, side):
    shapes = {glyph[0]: glyph[2] for glyph in font[1]}
    out = []
    for sign, gx, gy in glyph_places(font, words, scale_, room, gap, side):
        for outline in shapes[sign]:
            moved = []
            for point in outline:
                moved.append(tuple(part * scale_ + (gx + 16 * place[0] if k % 2 == 0 else gy + 16 * place[1])
                                   for k, part in enumerate(point)))
            out.append(chords(tuple(moved)))
    return tuple(out)


def ramp_pixel(manner, start, finish, first, second, x, y):
    ax, ay = start
    ux, uy = finish[0] - ax, finish[1] - ay
    rr = ux * ux + uy * uy
    if rr == 0:
        t = 255
    elif manner == "line":
        t = max(0, min(255, (255 * ((x - ax) * ux + (y - ay) * uy)) // rr))
    else:
        t = min(255, isqrt((65025 * ((x - ax) ** 2 + (y - ay) ** 2)) // rr))
    return mixed(ink(first), ink(second), t)


class Plane:
    """A plane that is told by a function of places and remembers what it has told."""

    def __init__(self, told):
        self.told = told
        self.known = {}

    def at(self, x, y):
        if (x, y) not in self.known:
            self.known[x, y] = self.told(x, y)
        return self.known[x, y]

    def block(self, x0, y0, x1, y1):
        return tuple(tuple(self.at(x, y) for x in range(x0, x1)) for y in range(y0, y1))


def clear():
    return Plane(lambda x, y: CLEAR)


def active(tree):
    return tree[2][3] and tree[2][1] > 0


def share(child, x, y):
    opacity, mask = child[2][1], child[2][2]
    if mask is None:
        return opacity
    held = [k for i, j, k in mask if (i, j) == (x, y)]
    return (opacity * (held[0] if held else 0) + 127) // 255


def effect(child, a):
    """The plane E that an effect makes of the whole plane a."""
    kind, body = child[1], child[3]
    if kind == "pass":
        return fold(child[4], a)
    if kind == "table":
        curves = [Curve(points) for points in body]
        return Plane(lambda x, y: adjusted(a.at(x, y), *curves))
    if kind == "kernel":
        weights, (ox, oy), divisor = body
        kw, kh = len(weights[0]), len(weights)
        return Plane(lambda x, y: convolved(
            a.block(x - ox, y - oy, x - ox + kw, y - oy + kh), weights, divisor)[0][0])
    if kind == "blur":
        radius, times = body
        r = radius * times
        return Plane(lambda x, y: blurred(a.block(x - r, y - r, x + r + 1, y + r + 1), radius, times)[0][0])
    across, down, which = body
    return Plane(lambda x, y: ranked(
        a.block(x - across, y - down, x + across + 1, y + down + 1), across, down, which)[0][0])


def step(child, a, keeps):
    if not active(child):
        return a
    if child[1] in EFFECTS:
        e = effect(child, a)
        if keeps:
            return Plane(lambda x, y: mixed(a.at(x, y), capped(e.at(x, y), a.at(x, y)[3]), share(child, x, y)))
        return Plane(lambda x, y: mixed(a.at(x, y), e.at(x, y), share(child, x, y)))
    c = plane(child)
    lay = kept if keeps else blend
    return Plane(lambda x, y: lay(child[2][0], scale(c.at(x, y), share(child, x, y)), a.at(x, y)))


def fold(children, a):
    for child in children:
        a = step(child, a, False)
    return a


def plane(tree):
    """The plane of a painted layer."""
    kind, body, children = tree[1], tree[3], tree[4]
    if kind == "paint":
        return Plane(lambda x, y: next((p for i, j, p in body[0] if (i, j) == (x, y)), CLEAR))
    if kind == "solid":
        return Plane(lambda x, y: ink(body[0]))
    if kind == "ramp":
        return Plane(lambda x, y: ramp_pixel(*body, x, y))
    if kind == "shape":
        polygons = tuple(chords(outline) for outline in body[0])
        return Plane(lambda x, y: scale(
            ink(body[2]), (255 * covered(polygons, 1024, body[1], x, y) + 8) // 16))
    if kind == "text":
        polygons = text_polygons(*body[:4], *body[5:])
        return Plane(lambda x, y: scale(
            ink(body[4]), (255 * covered(polygons, 16384, "wind", x, y) + 8) // 16))
    if kind == "group":
        return fold(children, clear())
    if kind == "stack":
        a = fold(children[:1], clear())
        for child in children[1:]:
            a = step(child, a, True)
        return a
    return shown_through(tree, fold(children, clear()))


def shown_through(tree, p):
    """The plane of a placed or styled layer whose children fold to the plane p."""
    body = tree[3]
    if tree[1] == "placed":
        return Plane(lambda x, y: tapped(tuple((p.at(i, j), w) for i, j, w in taps(body[0], body[1], x, y))))
    return styled(body, p)


def styled(body, p):
    shadows, rims = body

    def told(x, y):
        pixel = CLEAR
        for dx, dy, radius, times, color in shadows:
            n = radius * times
            u, v = x - dx, y - dy
            s = blurred(p.block(u - n, v - n, u + n + 1, v + n + 1), radius, times)[0][0][3]
            pixel = blend("over", scale(ink(color), s), pixel)
        pixel = blend("over", p.at(x, y), pixel)
        for radius, color in rims:
            g = max(q[3] for row in p.block(x - radius, y - radius, x + radius + 1, y + radius + 1) for q in row)
            pixel = blend("over", scale(ink(color), (g * (255 - p.at(x, y)[3]) + 127) // 255), pixel)
        return pixel
    return Plane(told)


def half(block):
    out = []
    for y in range((len(block) + 1) // 2):
        row = []
        for x in range((len(block[0]) + 1) // 2):
            four = [block[j][i] for j in (2 * y, 2 * y + 1) for i in (2 * x, 2 * x + 1)
                    if j < len(block) and i < len(block[0])]
            n = len(four)
            row.append(tuple((2 * sum(p[part] for p in four) + n) // (2 * n) for part in range(4)))
        out.append(tuple(row))
    return tuple(out)
