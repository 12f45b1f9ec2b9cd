"""The pixels of a document, computed from the document alone."""

from easelwork.errors import BadPlace, BadValue
from easelwork.layers import is_effect
from easelwork.levels import last_level, level_of
from easelwork.planes import plane_blocks


def plane_at(document, number, x, y):
    """The pixel of the plane of a painted layer at any place."""
    tree = document.layer(number)
    if is_effect(tree):
        raise BadPlace()
    return plane_blocks(tree, [(x, y, x + 1, y + 1)])[0][0][0]


def whole(document, level):
    """The block of the whole picture at this level."""
    if not 0 <= level <= last_level(document.wide, document.high):
        raise BadValue("level")
    block = plane_blocks(document.root, [(0, 0, document.wide, document.high)])[0]
    return level_of(block, level)
