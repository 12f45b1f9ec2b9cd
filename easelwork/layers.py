"""Layers: tuples (number, kind, head, body, children)."""

from easelwork.errors import BadValue, NoLayer

KINDS = (
    "paint", "solid", "ramp", "shape", "text", "group", "stack", "placed", "styled",
    "pass", "table", "kernel", "blur", "rank",
)
# The kinds without a plane of their own: they change the plane below them.
EFFECTS = ("pass", "table", "kernel", "blur", "rank")
HOLDERS = ("group", "stack", "placed", "styled", "pass")

HEAD = ("mode", "opacity", "mask", "shown", "name")
FIELDS = {
    "paint": ("spots",),
    "solid": ("color",),
    "ramp": ("manner", "start", "finish", "first", "second"),
    "shape": ("outlines", "rule", "color"),
    "text": ("font", "scale", "place", "words", "color", "room", "gap", "side"),
    "group": (),
    "stack": (),
    "placed": ("matrix", "manner"),
    "styled": ("shadows", "rims"),
    "pass": (),
    "table": ("red", "green", "blue"),
    "kernel": ("weights", "origin", "divisor"),
    "blur": ("radius", "times"),
    "rank": ("across", "down", "which"),
}

# The values of fields that are not passed, in the order of HEAD and of FIELDS.
HEAD_VALUES = ("over", 255, None, True, "")
BODY_VALUES = {
    "paint": ((),),
    "solid": ((0, 0, 0, 255),),
    "ramp": ("line", (0, 0), (0, 0), (0, 0, 0, 255), (255, 255, 255, 255)),
    "shape": ((), "wind", (0, 0, 0, 255)),
    "text": ((16, ()), 16, (0, 0), "", (0, 0, 0, 255), 256, 16, "left"),
    "group": (),
    "stack": (),
    "placed": ((1, 0, 0, 0, 1, 0, 1), "near"),
    "styled": ((), ()),
    "pass": (),
    "table": (((0, 0), (255, 255)), ((0, 0), (255, 255)), ((0, 0), (255, 255))),
    "kernel": (((1,),), (0, 0), 1),
    "blur": (1, 1),
    "rank": (1, 1, "middle"),
}


def layer(number, kind, *children, **fields):
    """The layer of this kind with the children from the lowest on, and the default values in all other fields."""
    if kind not in KINDS:
        raise BadValue("kind")
    for word in fields:
        if word not in HEAD and word not in FIELDS[kind]:
            raise BadValue(word)
    head = [fields.get(word, value) for word, value in zip(HEAD, HEAD_VALUES)]
    body = [fields.get(word, value) for word, value in zip(FIELDS[kind], BODY_VALUES[kind])]
    return (number, kind, tuple(head), tuple(body), children)


def field(tree, name):
    """The value of a head field or body field of a layer."""
    if name in HEAD:
        return tree[2][HEAD.index(name)]
    return tree[3][_body_index(tree, name)]


def with_field(tree, name, value):
    """The layer with this value in the field."""
    number, kind, head, body, children = tree
    if name in HEAD:
        return (number, kind, _replaced(head, HEAD.index(name), value), body, children)
    return (number, kind, head, _replaced(body, _body_index(tree, name), value), children)


def walk(tree):
    """Yields the layer itself, and then the layers of the walks of its children, the lowest child first."""
    yield tree
    for child in tree[4]:
        yield from walk(child)


def layer_of(tree, number):
    """The first layer of the walk that has this number."""
    for held in walk(tree):
        if held[0] == number:
            return held
    raise NoLayer(number)


def is_effect(tree):
    """True if the layer is an effect, False if it is painted."""
    return tree[1] in EFFECTS


def is_active(tree):
    """True if the layer takes part in the fold of its holder."""
    return tree[2][3] is True and tree[2][1] > 0


def active_of(children):
    """The children that are active, in their order."""
    return [child for child in children if is_active(child)]


def _body_index(tree, name):
    names = FIELDS.get(tree[1], ())
    if name not in names:
        raise BadValue(name)
    return names.index(name)


def _replaced(values, at, value):
    return values[:at] + (value,) + values[at + 1:]
