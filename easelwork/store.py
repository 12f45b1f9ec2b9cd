"""The store: texts under keys in the disk blocks behind the log, found by a directory and a header."""

from easelwork.errors import Full, NotAFile
from easelwork.notation import read_value, write_value
from easelwork.sealed import unsealed

# How many disk blocks hold headers; the log stands right behind them.
HEADERS = 2


def header(disk):
    """The header in force."""
    found = [read_value(body) for body in (unsealed(disk.read(0)), unsealed(disk.read(1))) if body is not None]
    if not found:
        raise NotAFile()
    # No two headers have the same serial.
    return max(found)


def directory(disk):
    """The dict from the keys to the pairs of the length and the disk blocks of their texts."""
    _, _, _, _, length, blocks = header(disk)
    return {key: (size, held) for key, size, held in read_value(_text(disk, length, blocks))}


def stored(disk):
    """The dict from the keys to their texts."""
    held = directory(disk)
    return {key: _text(disk, held[key][0], held[key][1]) for key in held}


def uses(disk):
    """What each disk block is for."""
    _, _, _, log, _, blocks = header(disk)
    words = ["header"] * HEADERS + ["log"] * log + ["free"] * (disk.count - log - HEADERS)
    for at in blocks:
        words[at] = "directory"
    for _, held in list(directory(disk).values()):
        for at in held:
            words[at] = "chunk"
    return tuple(words)


def plan_save(disk, table):
    """The writes of a save of these texts, and the length and the disk blocks of their directory."""
    texts = stored(disk)
    held = directory(disk)
    stays = {key: held[key] for key in held if key in table and texts[key] == table[key]}
    free = [at for at, word in enumerate(uses(disk)) if word == "free"]
    return planned(disk.width, table, stays, free)


def planned(width, table, stays, free):
    """The same, where stays is the part of the old directory that stays, and free are the free disk blocks."""
    writes = []
    rows = []
    for key in sorted(table):
        if key in stays:
            rows.append((key, stays[key][0], stays[key][1]))
        else:
            made = _written(table[key], width, free[len(writes):])
            writes.extend(made)
            rows.append((key, len(table[key]), tuple([at for at, _ in made])))
    text = write_value(tuple(rows))
    made = _written(text, width, free[len(writes):])
    return (tuple(writes + made), len(text), tuple([at for at, _ in made]))


def _written(text, width, free):
    """The pairs (at, block) of the pieces of a text in the first free disk blocks."""
    parts = [text[start:start + width].ljust(width, "~") for start in range(0, len(text), width)]
    if len(parts) > len(free):
        raise Full()
    return list(zip(free, parts))


def _text(disk, length, blocks):
    return "".join([disk.read(at) for at in blocks])[:length]
