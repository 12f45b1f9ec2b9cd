"""Deeds: the changes of a document, each with the deed that takes it back."""

from easelwork.documents import check_chosen, check_size, trusted
from easelwork.errors import BadPlace, BadValue, NoChange, Taken, TooLarge
from easelwork.layers import HOLDERS, field, walk, with_field
from easelwork.pixels import CLEAR, is_pixel
from easelwork.ranges import MOST_SPOTS, are_spread, check_fields
from easelwork.trees import MOST_CHILDREN, MOST_DEPTH, MOST_LAYERS, check_tree, height

MOST_DEEDS = 60
# How many items each deed has.
ITEMS = {"put": 3, "set": 4, "add": 4, "drop": 2, "shift": 4, "choose": 2, "size": 3, "several": 2}


def do(document, deed):
    """The pair of the document that the deed makes, and the inverse deed."""
    if deed[0] not in ITEMS or len(deed) != ITEMS[deed[0]]:
        raise BadValue("deed")
    action = ACTIONS[deed[0]]
    return action(document, deed)


def _put(document, deed):
    _, number, spots = deed
    tree = document.layer(number)
    if tree[1] != "paint":
        raise BadPlace()
    if not are_spread(spots) or not all([is_pixel(pixel) for _, _, pixel in spots]):
        raise BadValue("spots")
    pixels = {(y, x): pixel for x, y, pixel in tree[3][0]}
    before = tuple([
        (x, y, pixels.get((y, x), CLEAR)) for x, y, pixel in spots if pixels.get((y, x), CLEAR) != pixel
    ])
    if not before:
        raise NoChange()
    for x, y, pixel in spots:
        pixels[(y, x)] = pixel
    after = tuple([(x, y, pixels[(y, x)]) for y, x in sorted(pixels) if pixels[(y, x)] != CLEAR])
    if len(after) > MOST_SPOTS:
        raise TooLarge("spots")
    return _with_layer(document, with_field(tree, "spots", after)), ("put", number, before)


def _set(document, deed):
    _, number, name, value = deed
    tree = document.layer(number)
    if name == "spots":
        raise BadValue(name)
    before = field(tree, name)
    made = with_field(tree, name, value)
    check_fields(made)
    if value == before:
        raise NoChange()
    return _with_layer(document, made), ("set", number, name, before)


def _add(document, deed):
    _, parent, at, tree = deed
    holder = document.layer(parent)
    _check_at(holder, at)
    check_tree(tree, _depth(document, parent) + 1)
    every = list(walk(tree))
    for held in every:
        if held[0] in document.numbers():
            raise Taken(held[0])
    if len(holder[4]) + 1 > MOST_CHILDREN:
        raise TooLarge("children")
    if len(document.numbers()) + len(every) > MOST_LAYERS:
        raise TooLarge("layers")
    return _with_layer(document, _put_in(holder, at, tree)), ("drop", tree[0])


def _drop(document, deed):
    _, number = deed
    tree = document.layer(number)
    if number == 0:
        raise BadPlace()
    parent, at = document.holder(number)
    return _with_layer(document, _taken_out(document.layer(parent), at)), ("add", parent, at, tree)


def _shift(document, deed):
    _, number, parent, at = deed
    tree = document.layer(number)
    document.layer(parent)
    if number == 0 or parent in [held[0] for held in list(walk(tree))]:
        raise BadPlace()
    before = document.holder(number)
    without = _with_layer(document, _taken_out(document.layer(before[0]), before[1]))
    holder = without.layer(parent)
    _check_at(holder, at)
    if before == (parent, at):
        raise NoChange()
    if len(holder[4]) + 1 > MOST_CHILDREN:
        raise TooLarge("children")
    if _depth(document, parent) + height(tree) > MOST_DEPTH:
        raise TooLarge("depth")
    return _with_layer(without, _put_in(holder, at, tree)), ("shift", number, before[0], before[1])


def _choose(document, deed):
    _, chosen = deed
    check_chosen(chosen)
    if chosen == document.chosen:
        raise NoChange()
    return trusted(document.wide, document.high, document.root, chosen), ("choose", document.chosen)


def _size(document, deed):
    _, wide, high = deed
    check_size(wide, high)
    if (wide, high) == (document.wide, document.high):
        raise NoChange()
    return trusted(wide, high, document.root, document.chosen), ("size", document.wide, document.high)


def _several(document, deed):
    _, deeds = deed
    if not 1 <= len(deeds) <= MOST_DEEDS or any([one[0] == "several" for one in deeds]):
        raise BadValue("several")
    inverses = []
    for one in deeds:
        document, inverse = do(document, one)
        inverses.append(inverse)
    return document, ("several", tuple(inverses[::-1]))


def _check_at(holder, at):
    """Raises BadPlace unless a child can be put in at this index."""
    if holder[1] not in HOLDERS or not 0 <= at <= len(holder[4]):
        raise BadPlace()


def _depth(document, number):
    """At which depth the layer stands; the root stands at 1."""
    if number == 0:
        return 1
    return 1 + _depth(document, document.holder(number)[0])


def _put_in(holder, at, tree):
    number, kind, head, body, children = holder
    return (number, kind, head, body, children[:at] + (tree,) + children[at:])


def _taken_out(holder, at):
    number, kind, head, body, children = holder
    return (number, kind, head, body, children[:at] + children[at + 1:])


def _with_layer(document, tree):
    """The document with the layer of this number replaced."""
    while tree[0] != 0:
        parent, at = document.holder(tree[0])
        tree = _put_in(_taken_out(document.layer(parent), at), at, tree)
    return trusted(document.wide, document.high, tree, document.chosen)


ACTIONS = {
    "put": _put,
    "set": _set,
    "add": _add,
    "drop": _drop,
    "shift": _shift,
    "choose": _choose,
    "size": _size,
    "several": _several,
}
