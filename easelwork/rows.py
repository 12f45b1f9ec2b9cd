"""Rows of things out of tuples of (x, y, thing) that are ascending by y, then by x."""


def row_of(items, y, x0, x1, nothing):
    """The things of one row from x0 on, up to x1; there may be many more items than these."""
    row = [nothing] * (x1 - x0)
    at = _first_item(items, y, x0)
    while at < len(items) and items[at][1] == y and items[at][0] < x1:
        row[items[at][0] - x0] = items[at][2]
        at += 1
    return row


def _first_item(items, y, x):
    """The index of the first item that is not ahead of the place."""
    low = 0
    high = len(items)
    while low < high:
        middle = (low + high) // 2
        if items[middle][1] < y or (items[middle][1] == y and items[middle][0] < x):
            low = middle + 1
        else:
            high = middle
    return low
