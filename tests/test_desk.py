"""The desk: point 62."""

import unittest

from making import refusal

from easelwork.blame import blame
from easelwork.desk import Desk
from easelwork.disk import Disk
from easelwork.documents import Document
from easelwork.files import File, format_disk, read_disk
from easelwork.history import History
from easelwork.journal import record_texts
from easelwork.kept import Kept
from easelwork.layers import layer
from easelwork.regions import Region
from easelwork.store import header
from easelwork.views import shown

VIEW = (4, 3, 1, 1, 0, 0)


def picture():
    return Document(4, 3, layer(0, "group", layer(1, "paint"), layer(2, "solid", opacity=8)))


def desk():
    return Desk(picture())


def founded(log=4, count=80, width=64):
    made = desk()
    disk = Disk(count, width)
    made.found(disk, log)
    return made, disk


def asked(made):
    """All that can be asked of a desk, in one value."""
    windows = {}
    for n in range(20):
        if refusal(made.window_at, n) is None:
            held = made.window_at(n)
            windows[n] = (held.view, held.state, held.image)
    return (made.history.pack(), made.pen, made.document, windows, sorted(made.kept), made.kept.painted, made.kept.room)


class LineTest(unittest.TestCase):
    def test_a_new_desk(self):
        made = Desk(picture(), side=3, room=7)
        self.assertIsInstance(made.history, History)
        self.assertIsInstance(made.kept, Kept)
        self.assertEqual((made.history.pack(), made.pen, made.kept.room, made.document),
                         (History(picture()).pack(), 0, 7, picture()))
        self.assertEqual(made.ask(1, 0, 0, 0), (((0, 0, 0, 0),) * 3,) * 3)

    def test_default_values(self):
        disk = Disk(80, 64)
        Desk(picture()).found(disk, 4)
        for made in (Desk(picture()), Desk.reopened(disk)):
            self.assertEqual((made.kept.room, len(made.ask(1, 0, 0, 0))), (40, 8))

    def test_sides_and_rooms_out_of_range(self):
        for side in (0, 17):
            self.assertEqual(refusal(Desk, picture(), side=side, room=-1), ("BadValue", "side"))
        for room in (-1, 100001):
            self.assertEqual(refusal(Desk, picture(), side=16, room=room), ("BadValue", "room"))

    def test_history_lines(self):
        made = desk()
        self.assertEqual(made.line("set 2 opacity 1"), 1)
        self.assertEqual(made.line("set 2 opacity 2"), 2)
        self.assertEqual([made.line(line) for line in ("undo", "undo", "redo", 'mark "one"', "redo", 'go "one"', "go 0", "go 2",
                                                      'unmark "one"')], [1, 0, 1, 1, 2, 1, 0, 2, 2])
        self.assertEqual(made.history.names(), ())
        for line, error in (("redo", ("NoWay",)), ("go 3", ("NoState", 3)), ("go -1", ("NoState", -1)),
                            ('go "x"', ("NoName", "x")), ('mark ""', ("BadValue", "word")), ('unmark "x"', ("NoName", "x")),
                            ("go $x", ("NoName", "x")), ("", ("BadLine", 1)), ("undo undo", ("BadLine", 6))):
            self.assertEqual(refusal(made.line, line), error)
        made.line('mark "m"')
        self.assertEqual(refusal(made.line, 'mark "m"'), ("NameTaken", "m"))

    def test_methods_do_what_the_lines_do(self):
        made, other = desk(), desk()
        for both in (made, other):
            both.line("set 2 opacity 1")
        steps = ((made.undo, "undo"), (made.redo, "redo"), (lambda: made.mark("a"), 'mark "a"'), (lambda: made.go(0), "go 0"),
                 (lambda: made.go("a"), 'go "a"'), (lambda: made.unmark("a"), 'unmark "a"'))
        for call, line in steps:
            self.assertEqual((call(), made.history.pack()), (other.line(line), other.history.pack()))
        for call, error in ((made.redo, ("NoWay",)), (lambda: made.go(9), ("NoState", 9)), (lambda: made.go("a"), ("NoName", "a")),
                            (lambda: made.mark(""), ("BadValue", "word")), (lambda: made.unmark("a"), ("NoName", "a"))):
            self.assertEqual(refusal(call), error)
        made.undo()
        self.assertEqual(refusal(made.undo), ("NoWay",))

    def test_pens(self):
        made = desk()
        self.assertEqual((made.line("pen 99"), made.pen), (0, 99))
        for value in ("100", "-1", "999999"):
            self.assertEqual((refusal(made.line, "pen " + value), made.pen), (("BadValue", "pen"), 99))
        made.line("pen 0")
        self.assertEqual(made.pen, 0)
        made.line("let p 5")
        made.line("pen $p")
        self.assertEqual((made.pen, refusal(made.line, "pen $q")), (5, ("NoName", "q")))
        made.line("set 2 opacity 1")
        made.line("set 2 opacity 2")
        self.assertEqual(([row[4] for row in made.history], made.line("undo")), ([0, 5, 5], 0))

    def test_names(self):
        made = desk()
        self.assertEqual(made.line("let a 3"), 0)
        made.line("let b $a")
        made.line("let a -7")
        made.line("set 2 opacity 1")
        self.assertEqual(made.document.layer(2)[2][1], 1)
        self.assertEqual(refusal(made.line, "let c $d"), ("NoName", "d"))
        self.assertEqual(refusal(made.line, "go $b"), ("NoState", 3))
        self.assertEqual(made.line("paint 1 square 1 1 #ff0000ff $b,0"), 2)
        self.assertEqual(list(made.history)[2][2], ("put", 1, ((3, 0, (255, 0, 0, 255)),)))
        made.line("let b 1")
        self.assertEqual(made.line("go $b"), 1)
        made.line("repeat 2 b { paint 1 square 1 1 #ff0000ff $b,1 }")
        self.assertEqual(refusal(made.line, "go $b"), None)
        self.assertEqual(made.history.now, 1)

    def test_scripts(self):
        made = desk()
        self.assertEqual(refusal(made.line, "run a"), ("NoName", "a"))
        self.assertEqual(made.line("script a { size $k 2 ; run b }"), 0)
        made.line("script b { drop 1 }")
        made.line("let k 9")
        self.assertEqual(made.line("run a"), 1)
        self.assertEqual(list(made.history)[1][2], ("several", (("size", 9, 2), ("drop", 1))))
        made.line("script b { size 1 1 }")
        made.line("undo")
        made.line("run a")
        self.assertEqual(list(made.history)[2][2][1][1], ("size", 1, 1))
        made.line("script a { run a }")
        self.assertEqual(refusal(made.line, "run a"), ("TooDeep",))

    def test_states(self):
        made = desk()
        self.assertEqual(made.line('{ set 2 name "x" }'), 1)
        self.assertEqual(made.line('{ set 2 name "y" ; set 2 name "z" }'), 2)
        self.assertEqual(made.line('do ("several",(("drop",1),))'), 3)
        self.assertEqual([row[2] for row in made.history], [
            None, ("set", 2, "name", "x"), ("several", (("set", 2, "name", "y"), ("set", 2, "name", "z"))), ("drop", 1)])

    def test_no_deed(self):
        made = desk()
        self.assertEqual(refusal(made.line, "repeat 0 i { drop 1 }"), ("NoChange",))
        self.assertEqual(refusal(made.line, "{ repeat 0 i { drop 99 } ; { repeat 0 j { drop 1 } } }"), ("NoChange",))
        self.assertEqual(refusal(made.line, "set 2 opacity 8"), ("NoChange",))
        self.assertEqual(len(made.history), 1)

    def test_a_full_history(self):
        made = desk()
        for k in range(199):
            made.line(f"set 2 opacity {k}" if k % 2 else f"set 2 opacity {k + 50}")
        self.assertEqual(refusal(made.line, "drop 99"), ("NoLayer", 99))
        self.assertEqual(refusal(made.line, "repeat 0 i { drop 1 }"), ("NoChange",))
        self.assertEqual(refusal(made.line, "drop 1"), ("TooLarge", "states"))
        self.assertEqual(made.line("undo"), 198)

    def test_errors_change_nothing(self):
        made, disk = founded()
        made.window(VIEW)
        made.line("set 2 opacity 1")
        made.line("let a 1")
        made.line("script s { drop $a ; drop 99 }")
        before = asked(made)
        for line in ("x", "", "drop 99", "run s", "run t", "{ size 1 1 ; drop 99 }", "{ wrap 1 ; drop $q }", "pen 100", "pen $q",
                     "let a $q", "go 9", 'go "x"', 'mark ""', "redo", "repeat 61 i { drop 1 }", "repeat 0 i { drop 1 }",
                     "script s { drop }", "set 2 opacity 1", 'do ("nothing",)', "do 5", "adjust none"):
            self.assertIsNotNone(refusal(made.line, line))
            self.assertEqual(asked(made), before)
        self.assertEqual((made.note(), read_disk(disk).pack()), (True, made.history.pack()))
        self.assertEqual(refusal(made.line, "run s"), ("NoLayer", 99))

    def test_a_line_asks_for_no_tile_and_moves_no_window(self):
        made = desk()
        n = made.window(VIEW)
        image, tiles, painted = made.window_at(n).image, sorted(made.kept), made.kept.painted
        made.line("paint 1 square 2 1 #ff0000ff 1,1")
        made.line("fill 1 0,0 255 #00ff00ff")
        made.line("undo")
        self.assertEqual((made.window_at(n).image, made.window_at(n).state, sorted(made.kept), made.kept.painted),
                         (image, 0, tiles, painted))


class WindowsTest(unittest.TestCase):
    def test_numbers(self):
        made = desk()
        self.assertEqual([made.window(VIEW) for _ in range(6)], [0, 1, 2, 3, 4, 5])
        self.assertEqual(refusal(made.window, ()), ("TooLarge", "windows"))
        self.assertIsNone(made.shut(2))
        self.assertEqual(refusal(made.window, (0, 3, 1, 1, 0, 0)), ("BadValue", "view"))
        self.assertEqual(made.window(VIEW), 6)
        self.assertEqual(refusal(made.window, VIEW), ("TooLarge", "windows"))
        for n in (2, 7, -1, 10 ** 30):
            self.assertEqual((refusal(made.window_at, n), refusal(made.shut, n)), (("BadValue", "window"),) * 2)
        made.shut(0)
        self.assertEqual(refusal(made.shut, 0), ("BadValue", "window"))
        self.assertEqual(made.window(VIEW), 7)

    def test_refresh_all(self):
        made = desk()
        self.assertEqual(made.refresh_all(), {})
        made.window(VIEW)
        made.window((2, 2, 1, 1, 1, 1))
        made.window(VIEW)
        made.shut(0)
        made.line("paint 1 square 1 1 #ff0000ff 2,1")
        self.assertEqual(made.refresh_all(), {1: Region.of([(1, 0, 2, 1)]), 2: Region.of([(2, 1, 3, 2)])})
        self.assertEqual(list(made.refresh_all().items()), [(1, Region.empty()), (2, Region.empty())])
        for n in (1, 2):
            self.assertEqual(made.window_at(n).image, shown(made.document, made.window_at(n).view))
            self.assertEqual(made.window_at(n).state, 1)

    def test_windows_use_the_kept_tiles_of_the_desk(self):
        made = desk()
        made.window(VIEW)
        self.assertEqual({tile[:5] for tile in made.kept}, {(n, 0, 0, 0, 0) for n in (0, 1, 2)})

    def test_ask(self):
        made = desk()
        made.line("paint 1 square 1 1 #ff0000ff 0,0")
        self.assertEqual(made.ask(1, 0, 0, 0)[0][:2], ((255, 0, 0, 255), (0, 0, 0, 0)))
        self.assertEqual(refusal(made.ask, 9, 9, 0, 0), ("NoLayer", 9))
        self.assertEqual(refusal(made.ask, 0, 9, 0, 0), ("BadValue", "level"))
        made.line("wrap 1")
        made.line("add blur 0 0")
        self.assertEqual(refusal(made.ask, 4, 9, 0, 0), ("BadPlace",))

    def test_blame(self):
        made = desk()
        made.line("paint 1 square 1 1 #ff0000ff 0,0")
        made.line("size 3 3")
        for x in range(3):
            self.assertEqual(made.blame(x, 0), blame(made.history, x, 0))
        self.assertEqual((made.blame(0, 0), refusal(made.blame, 3, 0)), (1, ("BadPlace",)))


class FileTest(unittest.TestCase):
    def test_no_file(self):
        made = desk()
        self.assertEqual((refusal(made.note), refusal(made.save)), (("NotAFile",), ("NotAFile",)))
        disk = Disk(80, 64)
        for log in (1, 78):
            self.assertEqual(refusal(made.found, disk, log), ("BadValue", "log"))
        self.assertEqual(refusal(made.found, Disk(6, 64), 2), ("Full",))
        self.assertEqual((refusal(made.note), disk.log), (("NotAFile",), ()))

    def test_found(self):
        made = desk()
        made.line("set 2 opacity 1")
        disk = Disk(80, 64)
        self.assertIsNone(made.found(disk, 4))
        self.assertEqual((read_disk(disk).pack(), header(disk)[:4]), (made.history.pack(), (2, 1, 1, 4)))
        count = len(disk.log)
        self.assertEqual((made.note(), len(disk.log)), (True, count))

    def test_a_refused_found_leaves_the_old_file(self):
        made, disk = founded()
        made.line("set 2 opacity 1")
        self.assertEqual(refusal(made.found, Disk(6, 64), 2), ("Full",))
        self.assertEqual((made.note(), read_disk(disk).pack()), (True, made.history.pack()))

    def test_a_new_file(self):
        made, disk = founded()
        made.line("set 2 opacity 1")
        other = Disk(80, 64)
        made.found(other, 3)
        made.line("set 2 opacity 2")
        made.note()
        self.assertEqual((read_disk(other).pack(), read_disk(disk).now), (made.history.pack(), 0))

    def test_entries(self):
        made, disk = founded(log=20)
        for line in ("set 2 opacity 1", "pen 3", "set 2 opacity 2", "let a 1", "undo", "redo", 'mark "x"', "go 0", 'go "x"',
                     "script s { drop 1 }", "run s", 'unmark "x"'):
            made.line(line)
        made.undo(), made.go(1), made.mark("y"), made.go("y"), made.unmark("y"), made.go(1)
        for line in ("redo 1", "drop 99", "go 77"):
            self.assertIsNotNone(refusal(made.line, line))
        self.assertEqual(made.note(), True)
        self.assertEqual(record_texts(disk)[0], (
            '("act",("set",2,"opacity",1),0)', '("act",("set",2,"opacity",2),3)', '("undo",)', '("redo",)', '("mark","x")',
            '("go",0)', '("go",2)', '("act",("drop",1),3)', '("unmark","x")',
            '("undo",)', '("go",1)', '("mark","y")', '("go",1)', '("unmark","y")', '("go",1)'))
        self.assertEqual(read_disk(disk).pack(), made.history.pack())

    def test_notes_and_saves(self):
        made, disk = founded(log=3)
        for k in range(3):
            made.line(f"set 2 opacity {k}")
        self.assertEqual((made.note(), record_texts(disk)[1]), (True, 3))
        made.line("set 2 opacity 77")
        self.assertEqual((made.note(), record_texts(disk)[1], header(disk)[1]), (False, 0, 2))
        self.assertEqual(read_disk(disk).pack(), made.history.pack())
        made.line("undo")
        self.assertIsNone(made.save())
        self.assertEqual((made.note(), record_texts(disk), read_disk(disk).pack()), (True, ((), 0), made.history.pack()))

    def test_entries_stay_if_the_disk_is_full(self):
        made = desk()
        fits = [count for count in range(8, 60) if refusal(format_disk, Disk(count, 64), made.history, 2) is None][0]
        disk = Disk(fits, 64)
        made.found(disk, 2)
        for k in range(3):
            made.line(f"set 2 opacity {k}")
        self.assertEqual((refusal(made.note), refusal(made.save)), (("Full",), ("Full",)))
        self.assertEqual(read_disk(disk).pack(), desk().history.pack())
        other = Desk(picture())
        disk = Disk(fits + 12, 64)
        other.found(disk, 2)
        other.line("set 2 opacity 0")
        self.assertEqual((other.note(), read_disk(disk).pack()), (True, other.history.pack()))

    def test_entries_that_found_no_room_are_in_the_next_save(self):
        found = 0
        for count in range(12, 30):
            made = desk()
            disk = Disk(count, 64)
            if refusal(made.found, disk, 2) is not None:
                continue
            words = [f"{k}" * 24 for k in range(10)]
            while words and refusal(made.note) is None:
                made.mark(words.pop())
            if not words:
                continue
            old = read_disk(disk).pack()
            for word, _ in made.history.names()[1:]:
                made.unmark(word)
            if refusal(made.save) is None:
                found += 1
                self.assertNotEqual(old, made.history.pack())
                self.assertEqual((read_disk(disk).pack(), made.note()), (made.history.pack(), True))
        self.assertGreater(found, 0)


class ReopenedTest(unittest.TestCase):
    def test_a_reopened_desk_goes_on(self):
        made, disk = founded()
        made.line("let a 1")
        made.line("pen 4")
        made.line("set 2 opacity 1")
        made.line("undo")
        made.note()
        again = Desk.reopened(disk, side=5, room=3)
        self.assertEqual((again.history.pack(), again.pen, again.kept.room, len(again.kept)), (made.history.pack(), 0, 3, 0))
        self.assertEqual(refusal(again.line, "pen $a"), ("NoName", "a"))
        self.assertEqual((header(disk)[2], again.line("redo"), again.note()), (2, 1, True))
        self.assertEqual(read_disk(disk).pack(), again.history.pack())
        self.assertEqual(again.ask(0, 0, 0, 0), Desk(again.document, side=5).ask(0, 0, 0, 0))
        twice = Desk.reopened(disk)
        self.assertEqual((twice.history.pack(), header(disk)[2], twice.document), (again.history.pack(), 3, again.document))

    def test_errors_in_their_order_before_anything_is_written(self):
        self.assertEqual(refusal(Desk.reopened, Disk(9, 64), side=0, room=-1), ("NotAFile",))
        _, disk = founded()
        count = len(disk.log)
        self.assertEqual(refusal(Desk.reopened, disk, side=0, room=-1), ("BadValue", "side"))
        self.assertEqual(refusal(Desk.reopened, disk, room=-1), ("BadValue", "room"))
        self.assertEqual(len(disk.log), count)
        self.assertIsInstance(File.attach(disk), File)


if __name__ == "__main__":
    unittest.main()
