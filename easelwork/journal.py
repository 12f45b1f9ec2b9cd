"""The log: records of entries in sealed disk blocks, each read only if it is known to be whole."""

from easelwork.sealed import unsealed
from easelwork.store import HEADERS, header


def bodies(record, generation, session, position, width):
    """The bodies of the disk blocks of one record that begins at this position of the log."""
    out = []
    rest = record
    while rest:
        front = f"{generation},{session},{position + len(out)},"
        # Two signs are for the marks of the seal, and two for L and its comma.
        room = width - len(front) - 4
        last = 1 if len(rest) <= room else 0
        out.append(f"{front}{last},{rest[:room]}")
        rest = rest[room:]
    return tuple(out)


def record_texts(disk):
    """The texts of the complete records, and the position behind the last one."""
    _, generation, newest, log, _, _ = header(disk)
    records = []
    end = 0
    parts = []
    oldest = 1
    for position in range(log):
        body = unsealed(disk.read(HEADERS + position))
        if body is None:
            break
        g, s, p, last, piece = body.split(",", 4)
        session = int(s)
        if int(g) != generation or int(p) != position or not oldest <= session <= newest:
            break
        if parts and session != oldest:
            break
        oldest = session
        parts.append(piece)
        if int(last) == 1:
            records.append("".join(parts))
            parts = []
            end = position + 1
    return (tuple(records), end)
