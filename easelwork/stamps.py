"""Where a state has changed a layer, and which state has changed a tile last."""

from easelwork.differ import differ
from easelwork.errors import BadPlace, BadValue
from easelwork.layers import is_effect
from easelwork.levels import last_level, level_size
from easelwork.rects import overlap
from easelwork.regions import Region


def dirty(history, state, number):
    """A region outside which the plane of the layer is the same at the state and at its parent."""
    check_painted(history, state, number)
    return _dirt(history, state, number, 0)


def tile_rect(document, number, level, side, i, j):
    """The rect of a tile, or None if it has no pixels."""
    rect = (i * side, j * side, (i + 1) * side, (j + 1) * side)
    if number != 0:
        return rect
    wide, high = level_size(document.wide, document.high, level)
    return overlap(rect, (0, 0, wide, high))


def stamp(history, state, number, level, side, i, j):
    """The last state on the road to this one that may have changed the tile."""
    check_tile(history, state, number, level)
    rect = tile_rect(history.document_at(state), number, level, side, i, j)
    return stamp_of(history, state, number, level, rect)


def check_painted(history, state, number):
    """Raises an error unless the layer is a painted one at this state."""
    if is_effect(history.document_at(state).layer(number)):
        raise BadPlace()


def check_tile(history, state, number, level):
    """Raises an error unless the layer has tiles of this level at this state."""
    check_painted(history, state, number)
    document = history.document_at(state)
    if not 0 <= level <= last_level(document.wide, document.high) or (level != 0 and number != 0):
        raise BadValue("level")


def stamp_of(history, state, number, level, rect):
    """The stamp of the tile with this rect, or None as its rect, of a painted layer."""
    found = _changer(history, state, number)
    region = _dirt(history, found, number, level)
    while not region.endless and (rect is None or not region.meets(rect)):
        found = _changer(history, history.parent(found), number)
        region = _dirt(history, found, number, level)
    return found


def _dirt(history, state, number, level):
    """The dirty region, halved as often as the level says; it is worked out once for each state."""
    key = ("dirt", state, number, level)
    if key not in history.learned:
        if level > 0:
            region = _dirt(history, state, number, level - 1).halved()
        else:
            region = _changed(history, state, number)
        history.learned[key] = region
    return history.learned[key]


def _changed(history, state, number):
    if state == 0:
        return Region.everything()
    new = history.document_at(state)
    old = history.document_at(history.parent(state))
    if number not in old.numbers() or is_effect(old.layer(number)):
        return Region.everything()
    if number != 0:
        return differ(old.layer(number), new.layer(number))
    if (old.wide, old.high) != (new.wide, new.high):
        return Region.everything()
    return differ(old.root, new.root) & Region.of([(0, 0, new.wide, new.high)])


def _changer(history, state, number):
    """The last state on the road to this one whose dirty region is not empty."""
    passed = []
    while ("changer", state, number) not in history.learned and not _dirt(history, state, number, 0):
        passed.append(state)
        state = history.parent(state)
    found = history.learned.get(("changer", state, number), state)
    for step in passed:
        history.learned[("changer", step, number)] = found
    return found
