"""Documents: a canvas, a tree of layers and a selection."""

from easelwork.errors import BadPlace, BadValue, NoLayer, TooLarge
from easelwork.layers import layer, walk
from easelwork.ranges import is_coverage
from easelwork.trees import MOST_LAYERS, check_tree

MOST_SIDE = 64


class Document:
    """A document; it never changes."""

    def __init__(self, wide, high, root, *, chosen=None):
        check_size(wide, high)
        if root[0] != 0 or root[1] != "group":
            raise BadPlace()
        check_tree(root, 1)
        if len(list(walk(root))) > MOST_LAYERS:
            raise TooLarge("layers")
        check_chosen(chosen)
        self._hold(wide, high, root, chosen)

    def __eq__(self, other):
        return isinstance(other, Document) and self.pack() == other.pack()

    def layer(self, number):
        """The layer with this number."""
        if number not in self._layers:
            raise NoLayer(number)
        return self._layers[number]

    def numbers(self):
        """The numbers of all layers, in the order of the walk of the root."""
        return tuple(list(self._layers))

    def holder(self, number):
        """The number of the layer that holds this one, and its index there; None for the root."""
        if number not in self._layers:
            raise NoLayer(number)
        return self._holders.get(number)

    def pack(self):
        """The tuple (wide, high, root, chosen)."""
        return (self.wide, self.high, self.root, self.chosen)

    def _hold(self, wide, high, root, chosen):
        self.wide = wide
        self.high = high
        self.root = root
        self.chosen = chosen
        every = list(walk(root))
        self._layers = {held[0]: held for held in every}
        self._holders = {child[0]: (held[0], at) for held in every for at, child in enumerate(held[4])}


def check_size(wide, high):
    """Raises BadValue unless a canvas can have this size."""
    if not 1 <= wide <= MOST_SIDE:
        raise BadValue("wide")
    if not 1 <= high <= MOST_SIDE:
        raise BadValue("high")


def check_chosen(chosen):
    """Raises BadValue unless this can be a selection."""
    if chosen is not None and not is_coverage(chosen):
        raise BadValue("chosen")


def trusted(wide, high, root, chosen):
    """The document of parts that are known to be in range; the whole tree is not checked anew."""
    made = Document(1, 1, layer(0, "group"))
    made._hold(wide, high, root, chosen)
    return made
