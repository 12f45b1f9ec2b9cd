"""Deeds that several tests make for themselves; most of them can be done, some are refused."""

import growing
from making import some_pixels

from easelwork.layers import FIELDS, HEAD, walk


def put_spots(chance, rect=(-2, -2, 8, 8), share=2):
    """Spots with clear pixels among them."""
    x0, y0, x1, y1 = rect
    pixels = some_pixels(20, chance.randint(0, 10 ** 6))
    return tuple((x, y, chance.choice(pixels)) for y in range(y0, y1) for x in range(x0, x1)
                 if chance.randint(0, 9) < share)


def new_value(chance, tree, name):
    if name in HEAD:
        return growing.head(chance)[name]
    return growing.body(chance, tree[1])[name]


def some_deed(chance, document):
    """A deed that the document may take; a few of these are refused."""
    word = chance.choice(("put", "put", "set", "set", "set", "add", "drop", "shift", "shift", "choose", "size",
                          "several"))
    return made_deed(chance, document, word)


def made_deed(chance, document, word):
    numbers = document.numbers()
    layers = list(walk(document.root))
    if word == "put":
        paints = [held[0] for held in layers if held[1] == "paint"]
        return ("put", chance.choice(paints or numbers), put_spots(chance))
    if word == "set":
        held = chance.choice(layers)
        names = [name for name in HEAD + FIELDS[held[1]] if name != "spots"]
        name = chance.choice(names)
        return ("set", held[0], name, new_value(chance, held, name))
    if word == "add":
        kind = chance.choice(growing.LEAVES + growing.PLAIN_EFFECTS + growing.PAINTED_HOLDERS + ("pass",))
        tree = growing.tree(chance, kind, 1, growing.Numbers(max(numbers) + 1), 2)
        return ("add", chance.choice(holders(layers)), chance.randint(0, 3), tree)
    if word == "drop":
        return ("drop", chance.choice(numbers))
    if word == "shift":
        return ("shift", chance.choice(numbers), chance.choice(holders(layers)), chance.randint(0, 3))
    if word == "choose":
        return ("choose", growing.mask(chance))
    if word == "size":
        return ("size", chance.randint(1, 7), chance.randint(1, 7))
    words = ("put", "set", "set", "choose", "size")
    return ("several", tuple(made_deed(chance, document, chance.choice(words)) for _ in range(chance.randint(1, 4))))


def holders(layers):
    return [held[0] for held in layers if held[1] in growing.PAINTED_HOLDERS + ("pass",)]
