"""The store: point 55."""

import unittest
from random import Random

import histories
from making import refusal

from easelwork.chunks import chunks
from easelwork.disk import Disk
from easelwork.documents import Document
from easelwork.files import File, format_disk
from easelwork.history import History
from easelwork.layers import layer
from easelwork.notation import read_value, write_value
from easelwork.sealed import seal, unsealed
from easelwork.store import directory, header, plan_save, stored, uses


def small():
    return History(Document(2, 1, layer(0, "group", layer(1, "paint", spots=((0, 0, (9, 9, 9, 9)),)))))


def written(texts, count=40, width=40, log=3, serial=1, generation=1, session=0):
    """A disk with these texts, put down by hand, one after the other behind the log."""
    disk = Disk(count, width)
    at = log + 2
    rows = []
    for key in sorted(texts) + [None]:
        text = write_value(tuple(rows)) if key is None else texts[key]
        blocks = []
        for start in range(0, len(text), width):
            disk.write(at, text[start:start + width].ljust(width, "~"))
            blocks.append(at)
            at += 1
        if key is None:
            put_header(disk, (serial, generation, session, log, len(text), tuple(blocks)))
        else:
            rows.append((key, len(text), tuple(blocks)))
    return disk


def put_header(disk, parts):
    at = parts[0] % 2
    disk.write(at, seal(disk.read(at), write_value(parts)))


def carried_out(disk, plan):
    """The disk after the writes of a plan and a header for it."""
    writes, length, blocks = plan
    for at, block in writes:
        disk.write(at, block)
    serial, generation, session, log, _, _ = header(disk)
    put_header(disk, (serial + 1, generation + 1, session, log, length, blocks))
    return disk


class HeaderTest(unittest.TestCase):
    def test_no_file(self):
        torn = Disk(5, 40)
        torn.write(0, "1" + "~" * 38 + "2")
        torn.write(1, "2" + "(" * 38 + "1")
        for disk in (Disk(5, 40), torn):
            for call in (header, directory, stored, uses):
                self.assertEqual(refusal(call, disk), ("NotAFile",))
            self.assertEqual(refusal(plan_save, disk, {"a": "x" * 9999}), ("NotAFile",))

    def test_the_greatest_serial_is_in_force(self):
        disk = Disk(6, 60)
        put_header(disk, (7, 3, 2, 2, 2, (4,)))
        disk.write(4, "()" + "~" * 58)
        self.assertEqual(header(disk), (7, 3, 2, 2, 2, (4,)))
        put_header(disk, (8, 1, 1, 2, 2, (4,)))
        self.assertEqual(header(disk), (8, 1, 1, 2, 2, (4,)))
        put_header(disk, (11, 9, 9, 2, 2, (4,)))
        self.assertEqual(header(disk), (11, 9, 9, 2, 2, (4,)))
        disk.write(1, "~" * 60)
        self.assertEqual(header(disk), (8, 1, 1, 2, 2, (4,)))
        put_header(disk, (100, 9, 9, 2, 2, (4,)))
        put_header(disk, (99, 9, 9, 2, 2, (4,)))
        self.assertEqual(header(disk)[0], 100)

    def test_where_serials_stand(self):
        disk = Disk(40, 100)
        format_disk(disk, small(), 4)
        self.assertEqual((unsealed(disk.read(0)), read_value(unsealed(disk.read(1)))[:4]), (None, (1, 1, 0, 4)))
        File.attach(disk)
        self.assertEqual(read_value(unsealed(disk.read(0)))[:4], (2, 1, 1, 4))


class ReadingTest(unittest.TestCase):
    def test_texts_of_every_length(self):
        for length in list(range(0, 6)) + list(range(37, 44)) + [79, 80, 81]:
            texts = {"a": "x" * length, "b": "(1,)"}
            disk = written(texts)
            count = (length + 39) // 40
            self.assertEqual(stored(disk), texts)
            self.assertEqual(directory(disk), {"a": (length, tuple(range(5, 5 + count))), "b": (4, (5 + count,))})
            words = uses(disk)
            self.assertEqual(words[:5], ("header", "header", "log", "log", "log"))
            self.assertEqual(words[5:6 + count], ("chunk",) * (count + 1))
            self.assertEqual(set(words[6 + count + len(header(disk)[5]):]), {"free"})
            self.assertEqual([at for at in range(40) if words[at] == "directory"], list(header(disk)[5]))
            self.assertEqual(len(words), 40)

    def test_an_empty_directory(self):
        disk = written({})
        self.assertEqual((directory(disk), stored(disk), header(disk)), ({}, {}, (1, 1, 0, 3, 2, (5,))))

    def test_the_dicts_are_new_at_each_call(self):
        disk = written({"a": "(1,)"})
        directory(disk).clear()
        stored(disk).clear()
        self.assertEqual((directory(disk), stored(disk)), ({"a": (4, (5,))}, {"a": "(1,)"}))

    def test_nothing_is_written(self):
        disk = written({"a": "(1,)"})
        log = disk.log
        header(disk), directory(disk), stored(disk), uses(disk), plan_save(disk, {"b": "x"})
        self.assertEqual(disk.log, log)


class PlanTest(unittest.TestCase):
    def test_unchanged_texts_keep_their_disk_blocks(self):
        disk = written({"a": "A" * 50, "b": "B", "c": "C", "d": "D"}, count=30)
        # a: 5 and 6, b: 7, c: 8, d: 9, directory: 10 and 11.
        self.assertEqual(uses(disk)[5:13], ("chunk",) * 5 + ("directory",) * 2 + ("free",))
        writes, length, blocks = plan_save(disk, {"d": "D", "c": "X" * 41, "a": "A" * 50, "aa": ""})
        text = '(("a",50,(5,6)),("aa",0,()),("c",41,(12,13)),("d",1,(9,)))'
        self.assertEqual(writes, ((12, "X" * 40), (13, "X" + "~" * 39), (14, text[:40]),
                                  (15, text[40:].ljust(40, "~"))))
        self.assertEqual((length, blocks), (len(text), (14, 15)))

    def test_the_lowest_free_ones_in_the_told_order(self):
        disk = written({"a": "A", "b": "B", "c": "C"}, count=30)
        carried_out(disk, plan_save(disk, {"a": "A", "b": "Y", "c": "C"}))
        # Free are now the old place of b and that of the old directory.
        free = [at for at, word in enumerate(uses(disk)) if word == "free"]
        self.assertEqual(free[:3], [6, 8, 11])
        writes, _, blocks = plan_save(disk, {"c": "Z", "b": "Y", "A": "N", "a": "M"})
        self.assertEqual([at for at, _ in writes], free[:3] + list(blocks))
        self.assertEqual([block[0] for _, block in writes[:3]], ["N", "M", "Z"])
        self.assertEqual(list(blocks), free[3:3 + len(blocks)])

    def test_full(self):
        # The directory has room in one disk block.
        for count in range(9, 12):
            disk = written({"a": "A"}, count=count)
            free = uses(disk).count("free")
            table = {"a": "A", "b": "B" * 40 * (free - 1)}
            self.assertEqual(len(plan_save(disk, table)[0]), free)
            self.assertEqual(refusal(plan_save, disk, {"a": "A", "b": "B" * (40 * (free - 1) + 1)}), ("Full",))
            self.assertEqual(refusal(plan_save, disk, {"a": "A", "b": "B" * 40 * free}), ("Full",))

    def test_blocks_that_a_save_gives_up_are_not_free_in_it(self):
        disk = written({"a": "A" * 400}, count=18, log=2)
        self.assertEqual(uses(disk).count("free"), 3)
        self.assertEqual(refusal(plan_save, disk, {"b": "B" * 100}), ("Full",))
        self.assertEqual([at for at, _ in plan_save(disk, {"b": "B" * 80})[0]], [15, 16, 17])

    def test_the_dict_stays_as_it_was(self):
        disk = written({"a": "A"})
        table = {"b": "B", "a": "A"}
        plan_save(disk, table)
        self.assertEqual(table, {"b": "B", "a": "A"})

    def test_against_a_slow_account(self):
        for seed in range(60):
            chance = Random(seed)
            width = chance.choice((40, 41, 60, 100))
            disk = written(self.some_texts(chance, {}), count=200, width=width, log=chance.randint(2, 6))
            for _ in range(5):
                texts = self.some_texts(chance, stored(disk))
                plan = plan_save(disk, texts)
                self.check_plan(disk, texts, plan)
                carried_out(disk, plan)
                self.assertEqual(stored(disk), texts)

    def some_texts(self, chance, texts):
        out = {key: text for key, text in texts.items() if chance.randint(0, 4)}
        for _ in range(chance.randint(0, 3)):
            out[chance.choice(("top", "state 1", "state 10", "layer 2", "spots 1 -1 0"))] = "".join(
                chance.choice("(ab1,)") for _ in range(chance.randint(0, 200)))
        return out

    def check_plan(self, disk, texts, plan):
        old, held, words = stored(disk), directory(disk), uses(disk)
        free = [at for at, word in enumerate(words) if word == "free"]
        rows, pieces = [], []
        for key in sorted(texts):
            if old.get(key) == texts[key]:
                rows.append((key,) + held[key])
                continue
            parts = self.pieces(texts[key], disk.width)
            rows.append((key, len(texts[key]), tuple(free[len(pieces):len(pieces) + len(parts)])))
            pieces += parts
        text = write_value(tuple(rows))
        first = len(pieces)
        pieces += self.pieces(text, disk.width)
        self.assertEqual(plan, (tuple(zip(free, pieces)), len(text), tuple(free[first:len(pieces)])))

    def pieces(self, text, width):
        return [text[k * width:(k + 1) * width].ljust(width, "~") for k in range((len(text) + width - 1) // width)]

    def test_no_disk_block_has_two_uses(self):
        for seed in range(15):
            chance = Random(seed)
            disk = Disk(300, 120)
            history = histories.some_history(chance, 3, kinds=("paint", "solid", "group", "blur"))
            format_disk(disk, history, 5)
            file = File.attach(disk)
            for _ in range(3):
                histories.grown(chance, history, 3)
                file.save(history)
                self.assertEqual(stored(disk), chunks(history))
                taken = [at for _, blocks in directory(disk).values() for at in blocks] + list(header(disk)[5])
                self.assertEqual(len(set(taken)), len(taken))
                self.assertTrue(all(at >= 7 for at in taken))


if __name__ == "__main__":
    unittest.main()
