"""Windows that slide along rows of numbers: what coverages and blocks share."""


def sums(row, size):
    """The sum of each window of size neighbours in the row."""
    total = sum(row[:size])
    out = [total]
    for k in range(size, len(row)):
        total = total + row[k] - row[k - size]
        out.append(total)
    return out


def highest(row, size):
    """The greatest number of each window of size neighbours in the row."""
    return [max(row[k:k + size]) for k in range(len(row) - size + 1)]


def lowest(row, size):
    """The least number of each window of size neighbours in the row."""
    return [min(row[k:k + size]) for k in range(len(row) - size + 1)]


def flipped(rows):
    """The columns of the rows, as rows."""
    return [list(column) for column in zip(*rows)]


def padded(row, radius):
    """The row with its two ends repeated radius times."""
    return [row[0]] * radius + list(row) + [row[-1]] * radius
