"""Ready-made deeds."""

from easelwork.errors import BadPlace, BadValue
from easelwork.layers import is_effect, layer
from easelwork.matrices import Matrix
from easelwork.pieces import piece
from easelwork.pixels import CLEAR


def fresh(document):
    """A number greater than that of every layer."""
    return 1 + max(document.numbers())


def baked(document, number):
    """The deed that makes the layer a paint layer with the pixels that it has on the canvas."""
    tree = document.layer(number)
    if number == 0 or is_effect(tree):
        raise BadPlace()
    parent, at = document.holder(number)
    block = piece(tree, (0, 0, document.wide, document.high))
    spots = [(x, y, pixel) for y, row in enumerate(block) for x, pixel in enumerate(row) if pixel != CLEAR]
    paint = (number, "paint", tree[2], (tuple(spots),), ())
    return ("several", (("drop", number), ("add", parent, at, paint)))


def wrapped(document, number):
    """The deed that puts the layer into a new group at its place."""
    document.layer(number)
    if number == 0:
        raise BadPlace()
    parent, at = document.holder(number)
    n = fresh(document)
    return ("several", (("add", parent, at, layer(n, "group")), ("shift", number, n, 0)))


def unwrapped(document, number):
    """The deed that puts the children of a group at the place of the group."""
    tree = document.layer(number)
    if number == 0 or tree[1] != "group" or not tree[4]:
        raise BadPlace()
    parent, at = document.holder(number)
    shifts = [("shift", child[0], parent, at + i) for i, child in enumerate(tree[4])]
    return ("several", tuple(shifts) + (("drop", number),))


def turned_deed(document, number, seven):
    """The deed that moves the picture of a placed layer as the matrix of the seven numbers tells."""
    tree = document.layer(number)
    if tree[1] != "placed":
        raise BadPlace()
    if len(seven) != 7:
        raise BadValue("matrix")
    move = Matrix(*seven)
    held = tree[3][0]
    old = Matrix(*held)
    return ("set", number, "matrix", (old * move.inverse()).parts())
