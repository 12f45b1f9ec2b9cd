"""Blame: which state has changed a pixel last."""

from easelwork.errors import BadPlace
from easelwork.plain import plane_at
from easelwork.rects import holds
from easelwork.stamps import dirty


def blame(history, x, y):
    """The last state on the road to the present one that has changed the pixel, or 0."""
    if not _has_place(history.document, x, y):
        raise BadPlace()
    for state in history.road(history.now)[:0:-1]:
        if _has_changed(history, state, x, y):
            return state
    return 0


def _has_place(document, x, y):
    return holds((0, 0, document.wide, document.high), x, y)


def _has_changed(history, state, x, y):
    """True if the pixel is unlike that of the parent, or if the parent has none there."""
    before = history.document_at(history.parent(state))
    if not _has_place(before, x, y):
        return True
    if (x, y) not in dirty(history, state, 0):
        return False
    return plane_at(before, 0, x, y) != plane_at(history.document_at(state), 0, x, y)
