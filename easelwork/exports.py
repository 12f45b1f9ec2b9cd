"""Exports: blocks of pixels as texts, and roads of states as lines."""

from easelwork.errors import BadText
from easelwork.hexes import hex_parts, hex_text
from easelwork.notation import write_value
from easelwork.pixels import is_pixel

MOST_SIDE = 1000


def write_block(block):
    """The text of a block of pixels."""
    lines = [header_line(len(block[0]) if block else 0, len(block))]
    lines.extend([row_line(row) for row in block])
    return "\n".join(lines)


def header_line(wide, high):
    """The first line of the text of a block."""
    return f"{wide} {high}"


def row_line(row):
    """The line of a row: its runs of equal pixels."""
    runs = []
    for pixel in row:
        if runs and runs[-1][1] == pixel:
            runs[-1] = (runs[-1][0] + 1, pixel)
        else:
            runs.append((1, pixel))
    return " ".join([f"{many}*{hex_text(pixel)}" for many, pixel in runs])


def read_block(text):
    """The block whose text this is."""
    lines = text.split("\n")
    sizes = _sizes(lines[0])
    if not sizes:
        raise BadText(0)
    wide, high = sizes
    rows = []
    for line in lines[1:high + 1]:
        row = _row(line, wide)
        if not row:
            raise BadText(len(rows) + 1)
        rows.append(row)
    if len(lines) != high + 1:
        # The first line too many, or the first one that is missing.
        raise BadText(len(rows) + 1)
    return tuple(rows)


def road_lines(history, state):
    """The lines that lead a new desk of the document of state 0 to the document of this state."""
    road = history.road(state)
    return tuple(["do " + write_value(deed) for number, _, deed, _, _ in history if number in road and number > 0])


def _sizes(line):
    """The pair of the counts of the first line, or () if it is not right."""
    if line == header_line(0, 0):
        return (0, 0)
    words = line.split(" ")
    if len(words) != 2 or not _is_count(words[0]) or not _is_count(words[1]):
        return ()
    return (int(words[0]), int(words[1]))


def _is_count(word):
    """True for a number from 1 to 1000 in decimal."""
    return word.isdigit() and len(word) <= 4 and word[0] != "0" and int(word) <= MOST_SIDE


def _row(line, wide):
    """The row of so many pixels whose line this is, or () if it is none."""
    row = []
    for run in line.split(" "):
        many, _, digits = run.partition("*")
        pixel = hex_parts(digits)
        # What is no eight digits is no pixel either.
        if not _is_count(many) or not is_pixel(pixel) or len(row) + int(many) > wide:
            return ()
        row.extend([pixel] * int(many))
    # A line that splits a run of equal pixels in two is another one than that of the row.
    return tuple(row) if len(row) == wide and row_line(row) == line else ()
