"""The checks of a tree of layers that is to stand in a document."""

from easelwork.errors import BadPlace, BadValue, Taken, TooLarge
from easelwork.layers import HOLDERS, KINDS, walk
from easelwork.ranges import check_fields

MOST_CHILDREN = 16
MOST_DEPTH = 6
MOST_LAYERS = 40


def check_tree(tree, depth):
    """Raises the first error of a tree whose first layer stands at this depth."""
    _check_layer(tree, depth)
    seen = {}
    for held in walk(tree):
        if held[0] in seen:
            raise Taken(held[0])
        seen[held[0]] = True


def height(tree):
    """How many layers stand one in another, the first layer included."""
    return 1 + max([0] + [height(child) for child in tree[4]])


def _check_layer(tree, depth):
    """The checks of one layer, and then those of its children."""
    number, kind, _, _, children = tree
    if not 0 <= number <= 9999:
        raise BadValue("number")
    if kind not in KINDS:
        raise BadValue("kind")
    check_fields(tree)
    if children and kind not in HOLDERS:
        raise BadPlace()
    if len(children) > MOST_CHILDREN:
        raise TooLarge("children")
    if depth > MOST_DEPTH:
        raise TooLarge("depth")
    for child in children:
        _check_layer(child, depth + 1)
