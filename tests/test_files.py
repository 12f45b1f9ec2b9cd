"""Files: points 57 and 58."""

import unittest
from random import Random

import histories
from making import refusal

from easelwork.chunks import chunks
from easelwork.disk import Disk
from easelwork.documents import Document
from easelwork.files import File, format_disk, read_disk
from easelwork.history import History
from easelwork.journal import bodies, record_texts
from easelwork.layers import layer
from easelwork.notation import write_value
from easelwork.sealed import seal, unsealed
from easelwork.store import directory, header, plan_save, stored, uses


def small():
    return History(Document(2, 1, layer(0, "group", layer(1, "paint", spots=((0, 0, (9, 9, 9, 9)),)))))


def founded(history, log=4, count=60, width=64):
    disk = Disk(count, width)
    format_disk(disk, history, log)
    return disk


def act(history, value, pen=0):
    """Performs an act and returns its entry."""
    entry = ("act", ("set", 1, "opacity", value), pen)
    history.perform(entry)
    return entry


def since(disk, count):
    """What was done to the disk after the first items of its log: the numbers of the blocks, and None for a sync."""
    return [item[1] if item[0] == "write" else None for item in disk.log[count:]]


class FormatTest(unittest.TestCase):
    def test_what_is_written_in_which_order(self):
        disk = Disk(60, 64)
        disk.write(3, "1" * 64)
        disk.write(30, "2" * 64)
        count = len(disk.log)
        history = small()
        self.assertIsNone(format_disk(disk, history, 4))
        writes = since(disk, count)
        _, _, _, log, length, blocks = header(disk)
        last = blocks[-1]
        self.assertEqual(writes, list(range(6)) + [None] + list(range(6, last + 1)) + [None, 1, None])
        self.assertEqual([item[2] for item in disk.log[count:count + 6]], ["~" * 64] * 6)
        self.assertEqual(header(disk), (1, 1, 0, 4, length, blocks))
        self.assertEqual((stored(disk), read_disk(disk).pack()), (chunks(history), history.pack()))
        self.assertEqual(disk.read(1)[0], "1")

    def test_any_disk_is_made_new(self):
        disk = founded(small())
        file = File.attach(disk)
        history = small()
        file.note(history, (act(history, 3),))
        other = small()
        act(other, 77)
        format_disk(disk, other, 6)
        self.assertEqual((read_disk(disk).pack(), record_texts(disk), header(disk)[:4]), (other.pack(), ((), 0), (1, 1, 0, 6)))

    def test_logs_out_of_range(self):
        for log in (-1, 0, 1, 58, 59, 10 ** 30):
            disk = Disk(60, 64)
            self.assertEqual(refusal(format_disk, disk, small(), log), ("BadValue", "log"))
            self.assertEqual(disk.log, ())
        self.assertEqual(refusal(format_disk, Disk(4, 40), small(), 1), ("BadValue", "log"))
        self.assertEqual(refusal(format_disk, Disk(4, 40), small(), 2), ("BadValue", "log"))
        self.assertEqual(refusal(format_disk, Disk(5, 40), small(), 2), ("Full",))

    def test_full(self):
        texts = chunks(small())
        for log in (2, 5):
            fits = [count for count in range(log + 3, 60)
                    if refusal(format_disk, Disk(count, 64), small(), log) is None]
            disk = Disk(fits[0], 64)
            format_disk(disk, small(), log)
            self.assertEqual((fits, uses(disk).count("free")), (list(range(fits[0], 60)), 0))
            less = Disk(fits[0] - 1, 64)
            self.assertEqual((refusal(format_disk, less, small(), log), less.log), (("Full",), ()))
        self.assertEqual(len(texts), len(directory(founded(small()))))

    def test_a_header_that_is_too_long(self):
        # The directory of many chunks takes more disk blocks than the header can name.
        spots = tuple((x, y, (1, 1, 1, 1)) for y in range(0, 64, 8) for x in range(0, 64, 8))
        history = History(Document(64, 64, layer(0, "group", layer(1, "paint", spots=spots))))
        disk = Disk(400, 40)
        self.assertEqual((refusal(format_disk, disk, history, 2), disk.log), (("Full",), ()))
        self.assertIsNone(refusal(format_disk, Disk(400, 512), history, 2))


class AttachTest(unittest.TestCase):
    def test_a_session(self):
        disk = founded(small())
        before = header(disk)
        count = len(disk.log)
        file = File.attach(disk)
        self.assertEqual((file.session, since(disk, count)), (1, [0, None]))
        self.assertIs(file.disk, disk)
        self.assertEqual(header(disk), (2, 1, 1) + before[3:])
        again = File.attach(disk)
        self.assertEqual((again.session, header(disk)), (2, (3, 1, 2) + before[3:]))
        self.assertEqual(since(disk, count), [0, None, 1, None])
        self.assertEqual(read_disk(disk).pack(), small().pack())

    def test_no_file(self):
        disk = Disk(10, 64)
        self.assertEqual((refusal(File.attach, disk), refusal(read_disk, disk), disk.log),
                         (("NotAFile",), ("NotAFile",), ()))

    def test_a_header_that_grows_too_long(self):
        # Serial 9 becomes 10, so the header needs one more character than the disk block has.
        for serial, session, error in ((8, 5, None), (9, 5, "Full"), (8, 9, "Full")):
            parts = (serial, 1, session, 2, 2, tuple(range(10, 19)))
            disk = Disk(200, len(write_value(parts)) + 2)
            disk.write(parts[0] % 2, seal(disk.read(parts[0] % 2), write_value(parts)))
            disk.write(10, "()".ljust(disk.width, "~"))
            count = len(disk.log)
            self.assertEqual(refusal(File.attach, disk), error and (error,))
            self.assertEqual(len(disk.log), count if error else count + 2)


class NoteTest(unittest.TestCase):
    def test_what_is_written(self):
        history = small()
        disk = founded(history)
        file = File.attach(disk)
        count = len(disk.log)
        entries = (act(history, 1), act(history, 2, pen=5))
        self.assertIs(file.note(history, entries), True)
        self.assertEqual(since(disk, count), [2, 3, None])
        self.assertEqual([unsealed(disk.read(2)), unsealed(disk.read(3))],
                         ['1,1,0,1,("act",("set",1,"opacity",1),0)', '1,1,1,1,("act",("set",1,"opacity",2),5)'])
        self.assertEqual((read_disk(disk).pack(), stored(disk)), (history.pack(), chunks(small())))
        history.undo()
        file.note(history, (("undo",),))
        self.assertEqual((since(disk, count), unsealed(disk.read(4))), ([2, 3, None, 4, None], '1,1,2,1,("undo",)'))
        self.assertEqual(read_disk(disk).pack(), history.pack())

    def test_no_entries(self):
        history = small()
        disk = founded(history, log=2)
        file = File.attach(disk)
        file.note(history, (act(history, 1), act(history, 2)))
        count = len(disk.log)
        self.assertEqual((file.note(history, ()), len(disk.log)), (True, count))

    def test_a_log_that_is_full_to_the_last_disk_block(self):
        history = small()
        disk = founded(history, log=3)
        file = File.attach(disk)
        entries = [act(history, k) for k in range(3)]
        self.assertEqual((file.note(history, tuple(entries[:3])), record_texts(disk)[1]), (True, 3))
        self.assertEqual(read_disk(disk).pack(), history.pack())
        entry = act(history, 9)
        self.assertEqual((file.note(history, (entry,)), record_texts(disk)), (False, ((), 0)))
        self.assertEqual((header(disk)[:4], read_disk(disk).pack()), ((3, 2, 1, 3), history.pack()))
        self.assertEqual(file.note(history, (act(history, 11),)), True)
        self.assertEqual(unsealed(disk.read(2))[:8], "2,1,0,1,")

    def test_records_of_many_bodies(self):
        history = small()
        disk = founded(history, log=9)
        file = File.attach(disk)
        spots = tuple((x, 0, (3, 3, 3, 3)) for x in range(12))
        entry = ("act", ("put", 1, spots), 0)
        history.perform(entry)
        count = len(disk.log)
        file.note(history, (entry, act(history, 4)))
        held = bodies(write_value(entry), 1, 1, 0, 64)
        self.assertGreater(len(held), 2)
        self.assertEqual(since(disk, count), list(range(2, 3 + len(held))) + [None])
        self.assertEqual(tuple(unsealed(disk.read(2 + k)) for k in range(len(held))), held)
        self.assertEqual(read_disk(disk).pack(), history.pack())

    def test_a_new_session_goes_on_behind_the_last_record(self):
        history = small()
        disk = founded(history, log=5)
        File.attach(disk).note(history, (act(history, 1),))
        file = File.attach(disk)
        file.note(history, (act(history, 2),))
        self.assertEqual((unsealed(disk.read(3))[:8], file.session), ("1,2,1,1,", 2))
        self.assertEqual(read_disk(disk).pack(), history.pack())

    def test_a_note_that_cannot_be_saved_either(self):
        history = small()
        fits = [count for count in range(8, 60) if refusal(format_disk, Disk(count, 64), history, 2) is None][0]
        disk = Disk(fits, 64)
        format_disk(disk, history, 2)
        file = File.attach(disk)
        entries = tuple(act(history, k) for k in range(4))
        count = len(disk.log)
        self.assertEqual((refusal(file.note, history, entries), len(disk.log)), (("Full",), count))
        self.assertEqual(refusal(file.save, history), ("Full",))
        self.assertEqual((len(disk.log), file.note(history, ())), (count, True))


class SaveTest(unittest.TestCase):
    def test_what_is_written(self):
        history = small()
        disk = founded(history)
        file = File.attach(disk)
        act(history, 7)
        writes, length, blocks = plan_save(disk, chunks(history))
        count = len(disk.log)
        self.assertIsNone(file.save(history))
        self.assertEqual(since(disk, count), [at for at, _ in writes] + [None, 1, None])
        self.assertEqual(header(disk), (3, 2, 1, 4, length, blocks))
        self.assertEqual((stored(disk), read_disk(disk).pack()), (chunks(history), history.pack()))

    def test_a_save_of_the_same_history_writes_the_directory_alone(self):
        history = small()
        disk = founded(history)
        file = File.attach(disk)
        held = directory(disk)
        count = len(disk.log)
        file.save(history)
        self.assertEqual(directory(disk), held)
        self.assertEqual(since(disk, count), list(header(disk)[5]) + [None, 1, None])

    def test_the_end_of_the_log_is_0_again(self):
        history = small()
        disk = founded(history)
        file = File.attach(disk)
        file.note(history, (act(history, 1), act(history, 2)))
        file.save(history)
        self.assertEqual(record_texts(disk), ((), 0))
        file.note(history, (act(history, 3),))
        self.assertEqual((unsealed(disk.read(2))[:8], record_texts(disk)[1]), ("2,1,0,1,", 1))

    def test_headers_take_turns(self):
        history = small()
        disk = founded(history)
        file = File.attach(disk)
        for k in range(5):
            act(history, k)
            file.save(history)
            self.assertEqual((header(disk)[0], header(disk)[1]), (3 + k, 2 + k))
            self.assertEqual(disk.log[-2][1], (3 + k) % 2)

    def test_a_header_that_is_a_little_too_long(self):
        longer = set()
        for many in range(20, 34):
            spots = tuple((8 * (k % 6), 8 * (k // 6), (1, 1, 1, 1)) for k in range(many))
            history = History(Document(1, 1, layer(0, "group", layer(1, "paint", spots=spots))))
            disk = Disk(400, 60)
            if refusal(format_disk, disk, history, 2) is not None:
                continue
            file = File.attach(disk)
            for _ in range(12):
                _, length, blocks = plan_save(disk, chunks(history))
                serial, generation, session, log, _, _ = header(disk)
                body = write_value((serial + 1, generation + 1, session, log, length, blocks))
                count = len(disk.log)
                error = refusal(file.save, history)
                self.assertEqual(error, ("Full",) if len(body) > 58 else None)
                if error is not None:
                    self.assertEqual((len(disk.log), read_disk(disk).pack()), (count, history.pack()))
                    longer.add(len(body) - 58)
                    break
        self.assertTrue(longer & {1, 2, 3, 4}, longer)

    def test_nothing_but_free_blocks_is_written_before_the_header(self):
        for seed in range(10):
            chance = Random(seed)
            history = histories.some_history(chance, 3, kinds=("paint", "solid", "group"))
            disk = founded(history, 5, 300, 120)
            file = File.attach(disk)
            for _ in range(4):
                histories.grown(chance, history, 3)
                before, count = uses(disk), len(disk.log)
                file.save(history)
                writes = since(disk, count)
                self.assertEqual({before[at] for at in writes[:writes.index(None)]}, {"free"})
                self.assertEqual(writes[writes.index(None):], [None, header(disk)[0] % 2, None])


def some_fates(chance, width):
    """Fates of all kinds."""
    kinds = (("lost",), ("whole",), ("head", 0), ("head", width), ("tail", 0), ("tail", width))
    return tuple(chance.choice(kinds + (("head", chance.randint(0, width)), ("tail", chance.randint(0, width))) * 3)
                 for _ in range(chance.randint(0, 12)))


class CutTest(unittest.TestCase):
    """Every call is cut after each count of items of the log."""

    def test_every_cut_of_every_call(self):
        for seed in range(12):
            chance = Random(seed)
            kinds = ("paint", "paint", "solid", "group", "blur")
            history = histories.some_history(chance, 3, 3, 2, 1, kinds)
            width = chance.choice((64, 100, 200))
            disk = Disk(400, width)
            if refusal(format_disk, disk, history, chance.choice((2, 3, 5, 12))) is not None:
                continue
            file = self.attached(chance, disk, history)
            for _ in range(4):
                if file is None:
                    break
                file = self.one_step(chance, file, history)
                if chance.randint(0, 2) == 0:
                    # The power fails between two calls; the rest of the history is that of the file.
                    disk = file.disk.cut(len(file.disk.log), some_fates(chance, width))
                    self.assertEqual(read_disk(disk).pack(), history.pack())
                    file = self.attached(chance, disk, history)

    def attached(self, chance, disk, history):
        count = len(disk.log)
        file = File.attach(disk)
        self.assertEqual(read_disk(disk).pack(), history.pack())
        for found in self.cuts(chance, disk, count):
            self.assertEqual(read_disk(found).pack(), history.pack())
            if chance.randint(0, 3) == 0:
                self.check_again(found)
        return file

    def one_step(self, chance, file, history):
        """A note or a save that is not cut; all that it may be cut to is looked at."""
        disk = file.disk
        old = History.rebuilt(history.pack())
        entries = histories.grown(chance, history, chance.randint(0, 5))
        packs = [old.pack()]
        for entry in entries:
            old.perform(entry)
            packs.append(old.pack())
        count, generation = len(disk.log), header(disk)[1]
        word = chance.choice(("note", "note", "save"))
        call = (lambda: file.note(history, tuple(entries))) if word == "note" else (lambda: file.save(history))
        error = refusal(call)
        if error is not None:
            self.assertEqual((error, len(disk.log)), (("Full",), count))
            return None
        self.assertEqual(read_disk(disk).pack(), history.pack())
        if header(disk)[1] != generation:
            packs = [packs[0], packs[-1]]
        for found in self.cuts(chance, disk, count):
            self.assertIn(read_disk(found).pack(), packs)
            if chance.randint(0, 3) == 0:
                self.check_again(found)
        return file

    def cuts(self, chance, disk, count):
        for done in range(count, len(disk.log) + 1):
            yield disk.cut(done, ())
            yield disk.cut(done, (("lost",),) * 9)
            for _ in range(2):
                yield disk.cut(done, some_fates(chance, disk.width))

    def check_again(self, found):
        """A disk that was found is attached, noted, saved and cut like any other."""
        history = read_disk(found)
        before = history.pack()
        file = File.attach(found)
        self.assertEqual(read_disk(found).pack(), before)
        for done in range(len(found.log) + 1):
            self.assertEqual(read_disk(found.cut(done, (("head", 7),))).pack(), before)
        history.mark("found")
        if refusal(file.note, history, (("mark", "found"),)) is None:
            self.assertEqual(read_disk(found).pack(), history.pack())
            ends = (before, history.pack())
            self.assertIn(read_disk(found.cut(len(found.log) - 1, (("tail", 9),))).pack(), ends)

    def test_an_old_record_never_comes_back(self):
        history = small()
        disk = founded(history, log=6)
        file = File.attach(disk)
        entries = tuple(act(history, k) for k in range(3))
        count = len(disk.log)
        file.note(history, entries)
        # The first record is lost, and the two behind it are whole.
        found = disk.cut(count + 3, (("lost",),))
        self.assertEqual(read_disk(found).pack(), small().pack())
        second = File.attach(found)
        other = read_disk(found)
        second.note(other, (act(other, 50),))
        self.assertEqual((record_texts(found)[1], read_disk(found).pack()), (1, other.pack()))


if __name__ == "__main__":
    unittest.main()
