"""Chunks: a history as a dict of texts, so that a file writes just the texts that have changed."""

from easelwork.history import History
from easelwork.layers import walk
from easelwork.notation import read_value, write_value

# How many columns and rows of places share one chunk of spots.
SQUARE = 8


def chunks(history):
    """The dict of the texts of the history."""
    wide, high, root, chosen = history.document.pack()
    _, rows, now, followings, names = history.pack()
    table = {"top": write_value((wide, high, chosen, now, followings, names))}
    for state, parent, deed, inverse, pen in rows:
        table[f"state {state}"] = write_value((parent, deed, inverse, pen))
    for number, kind, head, body, children in walk(root):
        numbers = tuple([child[0] for child in children])
        if kind == "paint":
            table.update(_spot_texts(number, body[0]))
            body = ()
        table[f"layer {number}"] = write_value((kind, head, body, numbers))
    return table


def from_chunks(table):
    """The history of these texts."""
    wide, high, chosen, now, followings, names = read_value(table["top"])
    root = _tree(table, 0, _spots(table))
    return History.rebuilt(((wide, high, root, chosen), _rows(table), now, followings, names))


def _spot_texts(number, spots):
    """The texts of the spots of a paint layer, square by square."""
    squares = {}
    for x, y, pixel in spots:
        squares.setdefault(f"spots {number} {x // SQUARE} {y // SQUARE}", []).append((x, y, pixel))
    return {key: write_value(tuple(squares[key])) for key in squares}


def _spots(table):
    """The dict from the numbers of paint layers to their spots, in the order of layers."""
    found = {}
    for key in table:
        words = key.split(" ")
        if words[0] == "spots":
            found.setdefault(int(words[1]), []).extend([(y, x, pixel) for x, y, pixel in read_value(table[key])])
    return {number: tuple([(x, y, pixel) for y, x, pixel in sorted(found[number])]) for number in found}


def _tree(table, number, spots):
    """The layer with this number and all that it holds."""
    kind, head, body, numbers = read_value(table[f"layer {number}"])
    if kind == "paint":
        body = (spots.get(number, ()),)
    return (number, kind, head, body, tuple([_tree(table, child, spots) for child in numbers]))


def _rows(table):
    """The rows of all states, ascending."""
    rows = []
    while f"state {len(rows)}" in table:
        parent, deed, inverse, pen = read_value(table[f"state {len(rows)}"])
        rows.append((len(rows), parent, deed, inverse, pen))
    return tuple(rows)
