"""Pieces: blocks of the planes of layers, which need no document."""

from easelwork.errors import BadPlace
from easelwork.layers import is_effect
from easelwork.planes import plane_blocks


def piece(tree, rect):
    """The block of the rect of the plane of a painted layer."""
    if is_effect(tree):
        raise BadPlace()
    return plane_blocks(tree, [rect])[0]
