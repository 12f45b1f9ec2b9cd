"""Rects around scattered places, so that little more is made than what is needed."""

# What a rect costs beside its places, in places.
EXTRA = 4


def areas(places, across, down):
    """Rects that hold all the places, where each rect costs a margin of so many columns and rows."""
    if not places:
        return []
    return _cheapest(places, across, down)[1]


def _cheapest(places, across, down):
    """The cost and the list of rects of the box around the places, or of its two halves if these cost less."""
    box = _box(places)
    cost = (box[2] - box[0] + across) * (box[3] - box[1] + down) + EXTRA
    if cost <= 2 * len(places) + EXTRA:
        return (cost, [box])
    # A half may be worth splitting further even where the two halves alone save nothing.
    low, high = _halves(places, box)
    if not low or not high:
        return (cost, [box])
    first = _cheapest(low, across, down)
    second = _cheapest(high, across, down)
    if first[0] + second[0] < cost:
        return (first[0] + second[0], first[1] + second[1])
    return (cost, [box])


def _halves(places, box):
    """The places on both sides of a line through the middle of the box."""
    side = 0 if box[2] - box[0] >= box[3] - box[1] else 1
    middle = (box[side] + box[side + 2]) // 2
    return ([place for place in places if place[side] < middle], [place for place in places if place[side] >= middle])


def _box(places):
    """The smallest rect around the places."""
    across = [x for x, _ in places]
    down = [y for _, y in places]
    return (min(across), min(down), max(across) + 1, max(down) + 1)
