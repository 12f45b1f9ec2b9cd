"""Sealed disk blocks: a torn write leaves two different marks at the ends."""

from easelwork.errors import Full

MARKS = ("1", "2", "3")


def seal(old, body):
    """The disk block that holds the body, to be written over old."""
    if len(body) > len(old) - 2:
        raise Full()
    ends = (old[0], old[-1])
    mark = [sign for sign in MARKS if sign not in ends][0]
    return mark + body.ljust(len(old) - 2, "~") + mark


def unsealed(block):
    """The body of a sealed disk block, or None if it is not sealed."""
    if block[0] != block[-1] or block[0] not in MARKS:
        return None
    return block[1:-1].rstrip("~")
