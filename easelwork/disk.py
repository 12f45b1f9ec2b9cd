"""A model of a disk, and of what is found on it after a power failure."""

from easelwork.errors import BadValue


class Disk:
    """Disk blocks of one width, and the log of all that was done to them."""

    def __init__(self, count, width):
        if not 4 <= count <= 400 or not 40 <= width <= 512:
            raise BadValue("disk")
        self.count = count
        self.width = width
        self.log = ()
        self._first = ("~" * width,) * count
        self._held = list(self._first)

    def read(self, at):
        """The disk block with this number."""
        self._check_at(at)
        return self._held[at]

    def write(self, at, block):
        """Replaces the disk block with this number."""
        self._check_at(at)
        if len(block) != self.width:
            raise BadValue("block")
        self._held[at] = block
        self.log = self.log + (("write", at, block),)

    def sync(self):
        """Settles all writes so far: a power failure does no harm to them any more."""
        self.log = self.log + (("sync",),)

    def blocks(self):
        """The tuple of all disk blocks."""
        return tuple(self._held)

    def twin(self):
        """A new disk with the same disk blocks and an empty log."""
        return _disk_with(self, self._held)

    def cut(self, done, fates):
        """A new disk: what is found if the power fails after the first done items of the log."""
        if not 0 <= done <= len(self.log):
            raise BadValue("done")
        settled = _settled(self.log[:done])
        held = list(self._first)
        for _, at, block in [item for item in self.log[:settled] if item[0] == "write"]:
            held[at] = block
        # No sync stands among the items after the settled ones.
        for k, (_, at, block) in enumerate(self.log[settled:done]):
            fate = fates[k] if k < len(fates) else ("whole",)
            held[at] = _torn(held[at], block, fate)
        return _disk_with(self, held)

    def _check_at(self, at):
        if not 0 <= at < self.count:
            raise BadValue("at")


def _disk_with(disk, held):
    """A new disk of the same size that holds these disk blocks."""
    made = Disk(disk.count, disk.width)
    made._first = tuple(held)
    made._held = list(held)
    return made


def _settled(items):
    """How many items of a log stand up to its last sync, this sync included."""
    for k in range(len(items), 0, -1):
        if items[k - 1][0] == "sync":
            return k
    return 0


def _torn(old, new, fate):
    """What stands on the disk after a write of new over old with this fate."""
    if fate[0] == "lost":
        return old
    if fate[0] == "whole":
        return new
    if fate[0] == "head":
        return new[:fate[1]] + old[fate[1]:]
    kept = len(old) - fate[1]
    return old[:kept] + new[kept:]
