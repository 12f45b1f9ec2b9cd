"""Where the pixels of a placed layer look, and the bounds of this for regions."""

from easelwork.regions import Region

# The weights of all taps of one pixel add up to this.
WHOLE = 65536


def taps(matrix, manner, x, y):
    """The tuple of (column, row, weight) that the pixel (x, y) is made of."""
    n = matrix[6]
    u, v = _looked_at(matrix, x, y)
    if manner == "near":
        return ((u // (2 * n), v // (2 * n), WHOLE),)
    # In 256ths of a pixel, counted from the middle of the pixel (0, 0).
    p = (128 * u - 128 * n) // n
    q = (128 * v - 128 * n) // n
    i = p // 256
    j = q // 256
    w = p - 256 * i
    t = q - 256 * j
    four = (
        (i, j, (256 - w) * (256 - t)), (i + 1, j, w * (256 - t)),
        (i, j + 1, (256 - w) * t), (i + 1, j + 1, w * t),
    )
    return tuple([tap for tap in four if tap[2] > 0])


def tapped(pixels_and_weights):
    """The pixel that is made of pixels with weights."""
    r, g, b, a = [
        (sum([weight * pixel[part] for pixel, weight in pixels_and_weights]) + WHOLE // 2) // WHOLE
        for part in range(4)
    ]
    return (r, g, b, a)


def look(matrix, manner, region):
    """The region that the pixels of a region look at, rect by rect."""
    if region.endless:
        return Region.everything()
    return Region.of([_look_rect(matrix, manner, rect) for rect in region.rects()])


def back(matrix, manner, region):
    """The region of the pixels that may look at a region, rect by rect."""
    if region.endless:
        return Region.everything()
    found = [_back_rect(matrix, manner, rect) for rect in region.rects()]
    return Region.of([rect for rect in found if rect[0] < rect[2] and rect[1] < rect[3]])


def _looked_at(matrix, x, y):
    """The point that the pixel looks at: two numbers that are still to be divided by 2 * n."""
    a, b, c, d, e, f, _ = matrix
    across = 2 * x + 1
    along = 2 * y + 1
    return (a * across + b * along + 2 * c, d * across + e * along + 2 * f)


def _look_rect(matrix, manner, rect):
    x0, y0, x1, y1 = rect
    n = matrix[6]
    points = [_looked_at(matrix, x, y) for x in (x0, x1 - 1) for y in (y0, y1 - 1)]
    x_from, x_to = _looked_span([u for u, _ in points], manner, n)
    y_from, y_to = _looked_span([v for _, v in points], manner, n)
    return (x_from, y_from, x_to, y_to)


def _looked_span(numbers, manner, n):
    """The first column (or row) that is looked at, and the one after the last."""
    if manner == "near":
        return (min(numbers) // (2 * n), max(numbers) // (2 * n) + 1)
    return ((min(numbers) - n) // (2 * n), (max(numbers) - n) // (2 * n) + 2)


def _back_rect(matrix, manner, rect):
    """The rect of the pixels that may look at the rect; it may be without columns or rows."""
    a, b, c, d, e, f, n = matrix
    x0, y0, x1, y1 = rect
    area = a * e - b * d
    s = 1 if area > 0 else -1
    more = 1 if manner == "smooth" else 0
    # Twice the corners, as they may lie at halves, and without the part of the matrix that moves.
    corners = [
        (n * x - 2 * c, n * y - 2 * f) for x in (2 * x0 - more, 2 * x1 + more) for y in (2 * y0 - more, 2 * y1 + more)
    ]
    x_from, x_to = _back_span([s * (e * x - b * y) for x, y in corners], abs(area))
    y_from, y_to = _back_span([s * (a * y - d * x) for x, y in corners], abs(area))
    return (x_from, y_from, x_to, y_to)


def _back_span(numbers, area):
    """The first column (or row) whose middle lies between the numbers / (2 * area), and the one after the last."""
    first = -((area - min(numbers)) // (2 * area))
    last = (max(numbers) - area) // (2 * area)
    return (first, last + 1)
