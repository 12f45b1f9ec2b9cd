"""Texts: the lines of a text, the places of its signs, and the polygons of their outlines."""

from easelwork.outlines import chords


def lines(font, words, scale, room):
    """The lines of the text, each a tuple of words."""
    advances = _advances(font)
    blank = font[0] * scale
    out = []
    used = 0
    for word in words.split():
        wide = _width(advances, word) * scale
        if out and used + blank + wide <= 16 * room:
            out[-1].append(word)
            used += blank + wide
        else:
            out.append([word])
            used = wide
    return tuple([tuple(line) for line in out])


def glyph_places(font, words, scale, room, gap, side):
    """The signs of the text in reading order, with their places in 256ths of a pixel."""
    advances = _advances(font)
    out = []
    for i, line in enumerate(lines(font, words, scale, room)):
        wide = sum([_width(advances, word) for word in line]) + font[0] * (len(line) - 1)
        x = _line_start(16 * room - wide * scale, side)
        for word in line:
            for sign in word:
                out.append((sign, x, gap * i * scale))
                x += advances[sign] * scale
            x += font[0] * scale
    return tuple(out)


def text_polygons(font, scale, place, words, room, gap, side):
    """The polygons of the signs of the text, in 16384ths of a pixel."""
    outlines = {sign: shapes for sign, _, shapes in font[1]}
    out = []
    for sign, gx, gy in glyph_places(font, words, scale, room, gap, side):
        x = gx + 16 * place[0]
        y = gy + 16 * place[1]
        out.extend([chords(_set_at(outline, scale, x, y)) for outline in outlines[sign]])
    return tuple(out)


def _advances(font):
    return {sign: advance for sign, advance, _ in font[1]}


def _width(advances, word):
    return sum([advances[sign] for sign in word])


def _line_start(rest, side):
    """Where a line begins that leaves this much of the room."""
    if side == "left":
        return 0
    if side == "middle":
        return rest // 2
    return rest


def _set_at(outline, scale, x, y):
    """The outline at this scale and place; its handles move as its points do."""
    moves = (x, y, x, y)
    return tuple([tuple([part * scale + move for part, move in zip(point, moves)]) for point in outline])
