"""Commands worked out: the deeds that they stand for on a document."""

from easelwork.coverage import Coverage
from easelwork.deeds import do
from easelwork.edits import baked, fresh, turned_deed, unwrapped, wrapped
from easelwork.errors import BadValue, NoName, TooDeep
from easelwork.fills import alike, flood
from easelwork.layers import layer
from easelwork.pieces import piece
from easelwork.plain import whole
from easelwork.rects import overlap
from easelwork.strokes import painted_deed, stroke_cover

MOST_COMMANDS = 1000
MOST_DEEDS = 60
MOST_TIMES = 60
MOST_RUNS = 4
MOST_RADIUS = 8


def worked(document, command, names, scripts):
    """The pair of the deeds of the command, and the document that they make."""
    work = Work(document, scripts)
    work.begin(command, names, 0)
    return (tuple(work.done), work.later)


def filled(thing, names):
    """A part of a command with the integers of the names in place of the names."""
    if not isinstance(thing, tuple):
        return thing
    if thing and thing[0] == "$":
        if thing[1] not in names:
            raise NoName(thing[1])
        return names[thing[1]]
    return tuple([filled(item, names) for item in thing])


class Work:
    """The deeds that are done so far, and the document that they have made."""

    def __init__(self, document, scripts):
        self.done = []
        self.later = document
        self._begun = 0
        self._scripts = scripts

    def begin(self, command, names, runs):
        """Works out a command, where so many runs are not ended yet."""
        self._begun += 1
        if self._begun > MOST_COMMANDS:
            raise TooDeep()
        word = command[0]
        if word == "block":
            self._each(command[1], names, runs)
        elif word == "repeat":
            self._repeat(command, names, runs)
        elif word == "run":
            self._run(command[1], names, runs)
        else:
            making = MAKERS[word]
            self._carry_out(making(self.later, _filled_command(command, names)))

    def _each(self, commands, names, runs):
        for command in commands:
            self.begin(command, names, runs)

    def _repeat(self, command, names, runs):
        _, count, name, commands = command
        times = filled(count, names)
        if not 0 <= times <= MOST_TIMES:
            raise BadValue("times")
        for k in range(times):
            self._each(commands, {**names, name: k}, runs)

    def _run(self, name, names, runs):
        if name not in self._scripts:
            raise NoName(name)
        if runs == MOST_RUNS:
            raise TooDeep()
        self._each(self._scripts[name], names, runs + 1)

    def _carry_out(self, deed):
        later, _ = do(self.later, deed)
        self.done.extend(deed[1] if deed[0] == "several" else (deed,))
        if len(self.done) > MOST_DEEDS:
            raise TooDeep()
        self.later = later


def _filled_command(command, names):
    """The command with its names replaced; a value of set or do is never searched for names."""
    if command[0] == "do":
        return command
    if command[0] == "set":
        return filled(command[:3], names) + command[3:]
    return filled(command, names)


def _same(document, command):
    """The deed that reads like the command; the document plays no part."""
    return command


def _add(document, command):
    _, kind, parent, at = command
    return ("add", parent, at, layer(fresh(document), kind))


def _paint(document, command):
    _, number, manner, side, gap, color, points = command
    return painted_deed(document, number, stroke_cover(points, manner, side, gap), color)


def _erase(document, command):
    _, number, manner, side, gap, flow, points = command
    cover = stroke_cover(points, manner, side, gap)
    return painted_deed(document, number, cover, (0, 0, 0, 255), flow=flow, mode="erase")


def _fill(document, command):
    _, number, (x, y), tolerance, color = command
    return painted_deed(document, number, flood(whole(document, 0), x, y, tolerance), color)


def _mask(document, command):
    return ("set", command[1], "mask", document.chosen)


def _unmask(document, command):
    """The deed is the same for every document."""
    return ("set", command[1], "mask", None)


def _bake(document, command):
    return baked(document, command[1])


def _wrap(document, command):
    return wrapped(document, command[1])


def _unwrap(document, command):
    return unwrapped(document, command[1])


def _turn(document, command):
    return turned_deed(document, command[1], command[2])


def _given(document, command):
    """The deed that is written in the command; the document plays no part."""
    deed = command[1]
    if not isinstance(deed, tuple) or not deed or not isinstance(deed[0], str):
        raise BadValue("deed")
    return deed


def _select(document, command):
    _, how, source = command
    cover = _source_cover(document, source)
    if how == "more":
        cover = _selection(document) | cover
    elif how == "only":
        cover = _selection(document) & cover
    elif how == "less":
        cover = _selection(document) - cover
    return ("choose", cover.spots)


def _adjust(document, command):
    if command[1] == "none":
        return ("choose", None)
    return ("choose", _adjusted_cover(document, command[1:]).spots)


def _canvas(document):
    return (0, 0, document.wide, document.high)


def _selection(document):
    """The present selection; if everything is selected, it is the canvas."""
    if document.chosen is None:
        return Coverage.of_rect(_canvas(document), 255)
    return Coverage(document.chosen)


def _source_cover(document, source):
    """The coverage on the canvas that a select command begins with."""
    word = source[0]
    if word == "all":
        return Coverage.of_rect(_canvas(document), 255)
    if word == "rect":
        return _between(document, source[1], source[2])
    if word == "layer":
        return Coverage.of_alpha(piece(document.layer(source[1]), _canvas(document)), 0, 0)
    (x, y), tolerance = source[1:]
    if word == "flood":
        return flood(whole(document, 0), x, y, tolerance)
    return alike(whole(document, 0), x, y, tolerance)


def _between(document, p, q):
    """The coverage of the places of the canvas between two corners, both included."""
    x0, x1 = sorted([p[0], q[0]])
    y0, y1 = sorted([p[1], q[1]])
    part = overlap((x0, y0, x1 + 1, y1 + 1), _canvas(document))
    return Coverage.of_rect(part, 255) if part else Coverage(())


def _adjusted_cover(document, change):
    word = change[0]
    cover = _selection(document)
    canvas = _canvas(document)
    if word == "turned":
        return cover.turned(canvas)
    number = change[1]
    if word == "hardened":
        if not 1 <= number <= 255:
            raise BadValue("least")
        return cover.hardened(number)
    if not 0 <= number <= MOST_RADIUS:
        raise BadValue("radius")
    if word == "grown":
        return cover.grown(number, canvas)
    if word == "shrunk":
        return cover.shrunk(number, canvas)
    return cover.feathered(number, canvas)


# What makes the deed of each command that stands for one deed.
MAKERS = {
    "add": _add,
    "drop": _same,
    "shift": _same,
    "set": _same,
    "size": _same,
    "paint": _paint,
    "erase": _erase,
    "fill": _fill,
    "mask": _mask,
    "unmask": _unmask,
    "bake": _bake,
    "wrap": _wrap,
    "unwrap": _unwrap,
    "turn": _turn,
    "do": _given,
    "select": _select,
    "adjust": _adjust,
}
