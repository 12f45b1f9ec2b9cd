"""The integer arithmetic that all parts of the program share."""


def near(n):
    """The integer nearest to n / 255."""
    return (n + 127) // 255


def mul(x, y):
    """The product of two parts of 255."""
    return near(x * y)


def mix(d, f, k):
    """The way from d at k = 0 to f at k = 255."""
    return near(d * (255 - k) + f * k)


def hold(v, low, high):
    """v, or the end of the range from low to high that it lies beyond."""
    if v < low:
        return low
    if v > high:
        return high
    return v


def straight(c, a):
    """The straight color part of a pixel with the color part c and the alpha a."""
    if a > 0:
        return (510 * c + a) // (2 * a)
    return 0


def mean(total, count):
    """The integer nearest to total / count; a tie goes up."""
    return (2 * total + count) // (2 * count)
