"""Point 52: the disk and its power failures."""

import unittest
from random import Random

from easelwork.disk import Disk
from easelwork.errors import BadValue

FATES = [("lost",), ("whole",), ("head", 0), ("head", 1), ("head", 39), ("head", 40), ("tail", 0), ("tail", 1),
         ("tail", 39), ("tail", 40), ("head", 17), ("tail", 23)]


def full(sign, width=40):
    return sign * width


def mixed_block(chance, width=40):
    return "".join(chance.choice("abcdefgh ~123") for _ in range(width))


def busy_disk(seed, turns=12):
    """A disk of five blocks with some writes and syncs in its log."""
    chance = Random(seed)
    disk = Disk(5, 40)
    for _ in range(turns):
        if chance.randint(0, 3):
            disk.write(chance.randint(0, 4), mixed_block(chance))
        else:
            disk.sync()
    return disk


def torn(old, new, fate):
    """What stands after one write, sign by sign."""
    width = len(old)
    if fate[0] == "lost":
        taken = []
    elif fate[0] == "whole":
        taken = range(width)
    elif fate[0] == "head":
        taken = range(fate[1])
    else:
        taken = range(width - fate[1], width)
    return "".join(new[k] if k in taken else old[k] for k in range(width))


def found_blocks(first, log, done, fates):
    """What a cut must find, told item by item."""
    items = log[:done]
    held = list(first)
    fates = list(fates)
    for k, item in enumerate(items):
        if item == ("sync",):
            continue
        safe = ("sync",) in items[k:]
        fate = ("whole",)
        if not safe and fates:
            fate = fates.pop(0)
        held[item[1]] = torn(held[item[1]], item[2], fate)
    return tuple(held)


class DiskCase(unittest.TestCase):
    def check_bad(self, field, call, *arguments):
        with self.assertRaises(BadValue) as caught:
            call(*arguments)
        self.assertEqual(caught.exception.field, field)


class DiskTest(DiskCase):
    def test_a_new_disk(self):
        for count, width in ((4, 40), (400, 512), (7, 41)):
            disk = Disk(count, width)
            self.assertEqual((disk.count, disk.width, disk.log), (count, width, ()))
            self.assertEqual(disk.blocks(), ("~" * width,) * count)

    def test_sizes_out_of_range(self):
        for count, width in ((3, 40), (401, 40), (4, 39), (4, 513), (0, 0), (-4, 40), (4, -40), (10 ** 30, 40)):
            self.check_bad("disk", Disk, count, width)

    def test_read_and_write(self):
        disk = Disk(4, 40)
        self.assertIsNone(disk.write(0, full("a")))
        self.assertIsNone(disk.write(3, full("b")))
        self.assertEqual((disk.read(0), disk.read(1), disk.read(3)), (full("a"), full("~"), full("b")))
        disk.write(0, full("c"))
        self.assertEqual(disk.blocks(), (full("c"), full("~"), full("~"), full("b")))
        self.assertEqual(disk.log, (("write", 0, full("a")), ("write", 3, full("b")), ("write", 0, full("c"))))

    def test_the_log(self):
        disk = Disk(4, 40)
        self.assertIsNone(disk.sync())
        disk.write(1, full("a"))
        disk.sync()
        self.assertEqual(disk.log, (("sync",), ("write", 1, full("a")), ("sync",)))
        self.assertIs(type(disk.log), tuple)
        self.assertEqual(disk.read(1), full("a"))

    def test_wrong_places_and_blocks(self):
        disk = Disk(4, 40)
        disk.write(2, full("x"))
        before = (disk.blocks(), disk.log)
        for at in (-1, 4, 10 ** 30, -4):
            self.check_bad("at", disk.read, at)
            self.check_bad("at", disk.write, at, full("a"))
            self.check_bad("at", disk.write, at, "short")
        for block in ("", full("a", 39), full("a", 41)):
            self.check_bad("block", disk.write, 3, block)
        self.assertEqual((disk.blocks(), disk.log), before)

    def test_a_twin_goes_its_own_way(self):
        disk = busy_disk(1)
        twin = disk.twin()
        self.assertEqual((twin.blocks(), twin.log, twin.count, twin.width), (disk.blocks(), (), 5, 40))
        before = (disk.blocks(), disk.log)
        twin.write(0, full("z"))
        self.assertEqual((disk.blocks(), disk.log), before)
        held = twin.blocks()
        disk.write(1, full("y"))
        self.assertEqual((twin.blocks(), len(twin.log)), (held, 1))

    def test_a_twin_is_cut_back_to_what_it_was_made_with(self):
        disk = busy_disk(2)
        twin = disk.twin()
        twin.write(0, full("z"))
        self.assertEqual(twin.cut(0, ()).blocks(), disk.blocks())
        self.assertEqual(twin.cut(1, (("lost",),)).blocks(), disk.blocks())
        self.assertEqual(twin.cut(1, ()).blocks(), twin.blocks())


class CutTest(DiskCase):
    def test_every_item_of_the_log_with_every_fate(self):
        for seed in range(8):
            disk = busy_disk(seed)
            first = ("~" * 40,) * 5
            for done in range(len(disk.log) + 1):
                for fate in FATES:
                    for fates in ((fate,), (fate,) * 3, (("whole",), fate), (("lost",), fate, ("head", 5))):
                        found = disk.cut(done, fates)
                        self.assertEqual(found.blocks(), found_blocks(first, disk.log, done, fates))
                        self.assertEqual((found.log, found.count, found.width), ((), 5, 40))

    def test_fewer_and_more_fates_than_writes(self):
        disk = Disk(4, 40)
        for at, sign in enumerate("abc"):
            disk.write(at, full(sign))
        self.assertEqual(disk.cut(3, ()).blocks(), disk.blocks())
        self.assertEqual(disk.cut(3, (("lost",),)).blocks(), (full("~"), full("b"), full("c"), full("~")))
        many = (("whole",), ("lost",), ("tail", 2), ("nothing", 99), ("lost",))
        self.assertEqual(disk.cut(3, many).blocks(), (full("a"), full("~"), full("~", 38) + "cc", full("~")))
        self.assertEqual(disk.cut(0, many).blocks(), (full("~"),) * 4)

    def test_a_sync_settles_what_stands_before_it(self):
        disk = Disk(4, 40)
        disk.write(0, full("a"))
        disk.sync()
        disk.write(0, full("b"))
        lost = (("lost",), ("lost",))
        self.assertEqual([disk.cut(done, lost).read(0)[0] for done in range(4)], ["~", "~", "a", "a"])
        disk.sync()
        self.assertEqual(disk.cut(4, lost).read(0), full("b"))

    def test_several_writes_to_one_block(self):
        disk = Disk(4, 40)
        disk.write(1, full("a"))
        disk.write(1, full("b"))
        found = disk.cut(2, (("head", 10), ("tail", 5)))
        self.assertEqual(found.read(1), full("a", 10) + full("~", 25) + full("b", 5))

    def test_a_cut_disk_begins_anew(self):
        disk = busy_disk(3)
        found = disk.cut(len(disk.log), (("lost",),))
        start = found.blocks()
        found.write(4, full("q"))
        found.sync()
        self.assertEqual(found.log, (("write", 4, full("q")), ("sync",)))
        self.assertEqual(found.cut(0, ()).blocks(), start)
        self.assertEqual(found.cut(1, (("head", 3),)).read(4), "qqq" + start[4][3:])

    def test_a_cut_does_not_change_the_disk(self):
        disk = busy_disk(4)
        before = (disk.blocks(), disk.log)
        disk.cut(3, FATES).write(0, full("k"))
        self.assertEqual((disk.blocks(), disk.log), before)

    def test_counts_out_of_range(self):
        disk = busy_disk(5)
        for done in (-1, len(disk.log) + 1, 10 ** 30):
            self.check_bad("done", disk.cut, done, ())
        self.check_bad("done", Disk(4, 40).cut, 1, ())

    def test_lists_of_fates_stay_as_they_were(self):
        disk = busy_disk(6)
        fates = [("lost",), ("head", 2)]
        disk.cut(len(disk.log), fates)
        self.assertEqual(fates, [("lost",), ("head", 2)])


if __name__ == "__main__":
    unittest.main()
