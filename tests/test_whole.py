"""The guarantee of the whole: point 65, over sequences of calls of desks."""

import unittest
from random import Random

import doing
import growing
import slow
from making import refusal
from test_commands import some_command
from test_desk import asked
from test_files import some_fates
from test_views import some_view

from easelwork.desk import Desk
from easelwork.disk import Disk
from easelwork.files import read_disk
from easelwork.layers import layer_of, walk
from easelwork.levels import last_level, level_of
from easelwork.notation import write_value
from easelwork.pieces import piece
from easelwork.printing import printed
from easelwork.rects import cut, overlap
from easelwork.store import header
from easelwork.views import shown

KINDS = growing.LEAVES + growing.PLAIN_EFFECTS + growing.PAINTED_HOLDERS + ("pass",)


def some_line(chance, desk):
    """A line; many are carried out, some are refused."""
    document = desk.document
    numbers = document.numbers()
    paints = [tree[0] for tree in walk(document.root) if tree[1] == "paint"] or [0]
    n = chance.choice(numbers)
    paint = chance.choice(paints)
    x, y = chance.randint(-1, 6), chance.randint(-1, 6)
    color = "#" + "".join(f"{chance.choice((0, 128, 255)):02x}" for _ in range(4))
    dot = f"paint {paint} {chance.choice(('round', 'square'))} {chance.randint(1, 4)} 2 {color} {x},{y} 3,{x}"
    plain = (
        "undo", "undo", "redo", "redo", f"go {chance.randint(0, len(desk.history))}", 'mark "a"', 'go "a"', 'unmark "a"',
        f"pen {chance.choice((0, 3, 3, 100))}", "let i 2", "let n $i", f"script s {{ {dot} ; drop $n }}", "run s", dot, dot, dot,
        f"erase {paint} square 3 1 200 {x},{y}", f"fill {paint} {x},{y} 60 {color}", f"select to rect {x},{y} 3,3",
        f"select less flood {x},{y} 9", f"select more layer {n}", "adjust none", "adjust turned", "adjust feathered 2",
        f"mask {n}", f"unmask {n}", f"bake {n}", f"wrap {n}", f"unwrap {n}", f"drop {n}", f"turn {n} 0 -1 3 1 0 0 1",
        f"add {chance.choice(KINDS)} {chance.choice(numbers)} 0", f"size {chance.randint(1, 7)} {chance.randint(1, 7)}",
        f"repeat 3 k {{ paint {paint} square 1 1 {color} $k,1 }}", f"{{ {dot} ; wrap {n} }}",
        f"repeat 0 k {{ {dot} }}", "{ drop", "", "do 5",
    )
    kind = chance.randint(0, 9)
    if kind < 6:
        return chance.choice(plain)
    if kind < 9:
        return "do " + write_value(doing.some_deed(chance, document))
    return printed(some_command(chance, 2, True))


def tile_pixels(document, side, tile):
    """The pixels of a tile, made of the document alone."""
    number, level, i, j = tile
    rect = (i * side, j * side, (i + 1) * side, (j + 1) * side)
    if number != 0:
        return piece(layer_of(document.root, number), rect)
    canvas = (0, 0, document.wide, document.high)
    block = level_of(piece(document.root, canvas), level)
    held = (0, 0, len(block[0]), len(block))
    part = overlap(rect, held)
    return cut(block, held, part) if part else ()


class WholeTest(unittest.TestCase):
    def test_with_every_side_and_many_rooms(self):
        for seed in range(64):
            chance = Random(seed)
            side = seed // 4 + 1
            document = growing.document(chance, chance.randint(1, 7), chance.randint(1, 7), deep=1)
            desk = Desk(document, side=side, room=chance.choice((0, 1, 2, 5, 40, 1000)))
            # It gets the same lines, but has no windows and keeps nothing.
            twin = Desk(document, side=chance.randint(1, 16), room=0)
            disk, other = [Disk(400, 200) for _ in range(2)]
            log = chance.randint(2, 9)
            if refusal(desk.found, disk, log) is None:
                twin.found(other, log)
            for _ in range(25):
                desk, twin = self.step(chance, desk, twin, side)
            self.assertEqual(desk.document, desk.history.plain(desk.history.now))

    def step(self, chance, desk, twin, side):
        word = chance.choice(("line",) * 8 + ("window", "window", "ask", "ask", "kept", "file", "file"))
        if word == "line":
            self.line(chance, desk, twin)
        elif word == "window":
            self.windows(chance, desk)
        elif word == "ask":
            self.tile(chance, desk, side)
        elif word == "kept":
            desk.kept.throw_out(chance.randint(0, 4))
            desk.kept.room = chance.choice((0, 3, 40, 1000))
        elif refusal(desk.note) != ("NotAFile",):
            return self.file(chance, desk, twin, side)
        self.assertEqual(desk.history.pack(), twin.history.pack())
        return desk, twin

    def line(self, chance, desk, twin):
        line = some_line(chance, desk)
        before = asked(desk)
        # A value of another kind within a deed may fail in any way, but it changes nothing either.
        try:
            error = refusal(desk.line, line)
        except (TypeError, ValueError, IndexError, AttributeError, KeyError):
            error = "another kind"
        if error is not None:
            self.assertEqual(asked(desk), before, line)
        if error == "another kind":
            return
        self.assertEqual(refusal(twin.line, line), error, line)
        self.assertEqual(asked(desk)[3:6], before[3:6])

    def windows(self, chance, desk):
        opened = [n for n in range(30) if refusal(desk.window_at, n) is None]
        word = chance.choice(("open", "open", "refresh", "refresh", "scroll", "turn", "shut"))
        if word == "open" or not opened:
            n = refusal(desk.window, some_view(chance)) is None
            self.assertEqual(n, len(opened) < 6)
        elif word == "refresh":
            before = {n: desk.window_at(n).image for n in opened}
            regions = desk.refresh_all()
            self.assertEqual(list(regions), opened)
            for n in opened:
                self.assertEqual(desk.window_at(n).state, desk.history.now)
                for b, row in enumerate(desk.window_at(n).image):
                    for a, pixel in enumerate(row):
                        self.assertTrue(pixel == before[n][b][a] or (a, b) in regions[n])
        elif word == "scroll":
            desk.window_at(chance.choice(opened)).scroll(chance.randint(-9, 9), chance.randint(-9, 9))
        elif word == "turn":
            desk.window_at(chance.choice(opened)).turn_to(some_view(chance))
        else:
            desk.shut(chance.choice(opened))
        for n in range(30):
            if refusal(desk.window_at, n) is None:
                window = desk.window_at(n)
                self.assertEqual(window.image, shown(desk.history.document_at(window.state), window.view))

    def tile(self, chance, desk, side):
        document = desk.document
        number = chance.choice([tree[0] for tree in walk(document.root) if tree[1] not in slow.EFFECTS])
        level = chance.randint(0, last_level(document.wide, document.high)) if number == 0 else 0
        tile = (number, level, chance.randint(-1, 2), chance.randint(-1, 2))
        self.assertEqual(desk.ask(*tile), tile_pixels(document, side, tile))
        self.assertLessEqual(len(desk.kept), desk.kept.room)
        painted = desk.kept.painted
        desk.kept.ask(desk.history, desk.history.now, *tile)
        if len(desk.kept) < desk.kept.room:
            self.assertEqual(desk.kept.painted, painted)
        for number, level, i, j, u, block in list(desk.kept)[-3:]:
            self.assertEqual(block, tile_pixels(desk.history.document_at(u), side, (number, level, i, j)))

    def file(self, chance, desk, twin, side):
        """Notes, saves and reopens; each is cut at many places, and sometimes the desk goes on with what is found."""
        disk, other = desk._file.disk, twin._file.disk
        refusal(twin.note)
        for _ in range(chance.randint(0, 3)):
            self.line(chance, desk, twin)
        old, count = read_disk(disk).pack(), len(disk.log)
        word = chance.choice(("note", "save", "reopen"))
        if word == "reopen":
            again = Desk.reopened(disk, side=side)
            self.assertEqual(again.history.pack(), old)
            self.cuts(chance, disk, count, [old])
            self.assertEqual(Desk.reopened(disk, side=3).history.pack(), old)
            # The sessions are counted on both disks.
            for _ in range(2):
                Desk.reopened(other)
            return Desk.reopened(disk, side=side, room=2), Desk.reopened(other)
        entries = list(desk._entries)
        call, same = (desk.note, twin.note) if word == "note" else (desk.save, twin.save)
        generation = header(disk)[1]
        error = refusal(call)
        self.assertEqual(refusal(same), error)
        if error is None:
            self.assertEqual((read_disk(disk).pack(), read_disk(other).pack()), (desk.history.pack(), twin.history.pack()))
            self.assertEqual(disk.blocks()[2:], other.blocks()[2:])
            packs = [old, desk.history.pack()]
            if header(disk)[1] == generation:
                packs = self.packs(disk.cut(count, ()), entries)
            self.cuts(chance, disk, count, packs)
        return desk, twin

    def packs(self, disk, entries):
        """The packs of the history on the disk with the first entries done, for each count of entries."""
        history = read_disk(disk)
        out = [history.pack()]
        for entry in entries:
            history.perform(entry)
            out.append(history.pack())
        return out

    def cuts(self, chance, disk, count, packs):
        for done in range(count, len(disk.log) + 1):
            found = disk.cut(done, some_fates(chance, disk.width))
            self.assertIn(read_disk(found).pack(), packs)
            if chance.randint(0, 4) == 0:
                desk = Desk.reopened(found, side=chance.randint(1, 16))
                self.assertIn(desk.history.pack(), packs)
                desk.mark("cut" * 3)
                if refusal(desk.note) is None:
                    self.assertEqual(Desk.reopened(found).history.pack(), desk.history.pack())


if __name__ == "__main__":
    unittest.main()
