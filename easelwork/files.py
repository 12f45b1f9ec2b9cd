"""Files: histories on a disk, written so that a power failure never leaves a part of a change."""

from easelwork.chunks import chunks, from_chunks
from easelwork.errors import BadValue, Full
from easelwork.journal import bodies, record_texts
from easelwork.notation import read_value, write_value
from easelwork.sealed import seal
from easelwork.store import HEADERS, header, plan_save, planned, stored


def read_disk(disk):
    """The history that the file on the disk holds."""
    history = from_chunks(stored(disk))
    records, _ = record_texts(disk)
    for record in records:
        history.perform(read_value(record))
    return history


def format_disk(disk, history, log):
    """Makes a new file of the history, whatever stands on the disk."""
    if not 2 <= log <= disk.count - 3:
        raise BadValue("log")
    first = HEADERS + log
    writes, length, blocks = planned(disk.width, chunks(history), {}, list(range(first, disk.count)))
    body = _header_body(disk, (1, 1, 0, log, length, blocks))
    for at in range(first):
        disk.write(at, "~" * disk.width)
    disk.sync()
    _write_all(disk, writes)
    _write_header(disk, 1, body)


class File:
    """A file on a disk that is open for notes and saves."""

    def __init__(self, disk, session, end):
        self.disk = disk
        self.session = session
        # The position in the log where the next record begins.
        self._end = end

    @classmethod
    def attach(cls, disk):
        """Begins a new session of the file on the disk."""
        serial, generation, session, log, length, blocks = header(disk)
        body = _header_body(disk, (serial + 1, generation, session + 1, log, length, blocks))
        _write_header(disk, serial + 1, body)
        return cls(disk, session + 1, record_texts(disk)[1])

    def note(self, history, entries):
        """Adds the entries to the log; saves the history instead, and returns False, if they have no room there."""
        _, generation, _, log, _, _ = header(self.disk)
        rows = []
        for entry in entries:
            rows.extend(bodies(write_value(entry), generation, self.session, self._end + len(rows), self.disk.width))
        if len(rows) > log - self._end:
            self.save(history)
            return False
        if rows:
            first = HEADERS + self._end
            for k, body in enumerate(rows):
                self.disk.write(first + k, seal(self.disk.read(first + k), body))
            self.disk.sync()
            self._end += len(rows)
        return True

    def save(self, history):
        """Writes the texts of the history that are not stored yet, and empties the log."""
        serial, generation, _, log, _, _ = header(self.disk)
        writes, length, blocks = plan_save(self.disk, chunks(history))
        body = _header_body(self.disk, (serial + 1, generation + 1, self.session, log, length, blocks))
        _write_all(self.disk, writes)
        _write_header(self.disk, serial + 1, body)
        self._end = 0


def _header_body(disk, parts):
    """The written form of a header, if it has room in a disk block."""
    body = write_value(parts)
    if len(body) > disk.width - 2:
        raise Full()
    return body


def _write_all(disk, writes):
    for at, block in writes:
        disk.write(at, block)
    disk.sync()


def _write_header(disk, serial, body):
    """Writes a header over the older one of the two, so that the other one stays whole."""
    at = serial & 1
    disk.write(at, seal(disk.read(at), body))
    disk.sync()
