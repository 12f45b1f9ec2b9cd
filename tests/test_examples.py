"""The examples of the interface, as they stand there."""

import unittest

from easelwork.errors import BadLine, BadText, BadValue, EndlessRegion


class StageOneTest(unittest.TestCase):
    def test_arith(self):
        from easelwork.arith import mix, straight
        self.assertEqual(mix(10, 20, 128), 15)
        self.assertEqual(straight(1, 3), 85)

    def test_pixels(self):
        from easelwork.pixels import ink
        self.assertEqual(ink((255, 128, 0, 128)), (128, 64, 0, 128))

    def test_modes(self):
        from easelwork.modes import blend, kept
        self.assertEqual(blend("over", (100, 0, 0, 100), (0, 200, 0, 200)), (100, 122, 0, 222))
        self.assertEqual(blend("multiply", (100, 0, 0, 100), (0, 200, 0, 200)), (22, 122, 0, 222))
        self.assertEqual(kept("over", (100, 0, 0, 100), (0, 200, 0, 200)), (78, 122, 0, 200))

    def test_rects(self):
        from easelwork.rects import cut
        self.assertEqual(cut(((1, 2, 3), (4, 5, 6)), (10, 0, 13, 2), (11, 1, 13, 2)), ((5, 6),))

    def test_regions(self):
        from easelwork.regions import Region
        self.assertEqual(Region.of([(1, 1, 3, 3), (0, 0, 2, 2)]).bands,
                         ((0, 1, ((0, 2),)), (1, 2, ((0, 3),)), (2, 3, ((1, 3),))))
        self.assertEqual(Region.of([(-3, 0, 2, 1)]).halved().rects(), ((-2, 0, 1, 1),))
        with self.assertRaises(EndlessRegion):
            Region.everything() - Region.of([(0, 0, 1, 1)])

    def test_coverage(self):
        from easelwork.coverage import Coverage
        cover = Coverage([(1, 0, 9), (0, 0, 0), (0, 1, 255)])
        self.assertEqual((cover.spots, cover.grown(1, (0, 0, 3, 1)).spots),
                         (((1, 0, 9), (0, 1, 255)), ((0, 0, 9), (1, 0, 9), (2, 0, 9))))
        self.assertEqual(Coverage([(1, 0, 9), (0, 1, 255)]).feathered(1, (0, 0, 2, 1)).spots,
                         ((0, 0, 3), (1, 0, 6)))


class StageTwoTest(unittest.TestCase):
    def test_notation(self):
        from easelwork.notation import read_value, write_value
        self.assertEqual(write_value((1, "a", (), (True,), None)), '(1,"a",(),(true,),none)')
        with self.assertRaises(BadText) as caught:
            read_value("(1,2,)")
        self.assertEqual(caught.exception.position, 5)

    def test_disk(self):
        from easelwork.disk import Disk
        disk = Disk(4, 40)
        disk.write(0, "a" * 40)
        disk.sync()
        disk.write(1, "b" * 40)
        disk.write(2, "c" * 40)
        found = disk.cut(4, (("head", 3), ("lost",)))
        self.assertEqual((found.read(0)[:5], found.read(1)[:5], found.read(2)[:5]), ("aaaaa", "bbb~~", "~~~~~"))

    def test_tones(self):
        from easelwork.tones import Curve
        curve = Curve(((0, 0), (100, 50), (255, 255)))
        self.assertEqual((curve(1), curve(100), curve(200)), (1, 50, 182))

    def test_kernels(self):
        from easelwork.kernels import convolved
        block = (((10, 10, 10, 10), (20, 20, 20, 20), (40, 40, 40, 40)),)
        self.assertEqual(convolved(block, ((1, 2, -1),), 2), (((5, 5, 5, 5),),))

    def test_matrices(self):
        from easelwork.matrices import Matrix
        self.assertEqual((Matrix(2, 0, 0, 0, 2, 0, 1) * Matrix(1, 0, 3, 0, 1, 0, 1)).parts(), (2, 0, 6, 0, 2, 0, 1))
        self.assertEqual(Matrix(2, 0, 6, 0, 2, 0, 1).inverse().parts(), (1, 0, -6, 0, 1, 0, 2))

    def test_taps(self):
        from easelwork.regions import Region
        from easelwork.taps import back, taps
        self.assertEqual(taps((1, 0, 0, 0, 1, 0, 2), "smooth", 0, 0),
                         ((-1, -1, 4096), (0, -1, 12288), (-1, 0, 12288), (0, 0, 36864)))
        self.assertEqual(back((1, 0, 0, 0, 1, 0, 2), "smooth", Region.of([(0, 0, 1, 1)])).rects(), ((-1, -1, 3, 3),))


class StageThreeTest(unittest.TestCase):
    def test_outlines(self):
        from easelwork.outlines import covered
        self.assertEqual(covered((((0, 0), (1024, 0), (0, 1024)),), 1024, "odd", 0, 0), 6)

    def test_texts(self):
        from easelwork.texts import glyph_places, lines
        self.assertEqual(lines((8, (("a", 16, ()), ("b", 8, ()))), " ab  b a", 16, 32), (("ab",), ("b", "a")))
        self.assertEqual(glyph_places((8, (("a", 16, ()), ("b", 8, ()))), "ab b a", 16, 32, 20, "right"),
                         (("a", 128, 0), ("b", 384, 0), ("b", 0, 320), ("a", 256, 320)))

    def test_ramps(self):
        from easelwork.ramps import ramp_pixel
        self.assertEqual(ramp_pixel("line", (0, 0), (4, 0), (0, 0, 0, 255), (255, 255, 255, 255), 1, 5),
                         (63, 63, 63, 255))

    def test_layers(self):
        from easelwork.layers import layer
        self.assertEqual(layer(3, "blur", radius=2), (3, "blur", ("over", 255, None, True, ""), (2, 1), ()))

    def test_documents(self):
        from easelwork.documents import Document
        from easelwork.layers import layer
        with self.assertRaises(BadValue) as caught:
            Document(2, 1, layer(0, "group", layer(1, "solid", opacity=256)))
        self.assertEqual(caught.exception.field, "opacity")

    def test_levels(self):
        from easelwork.levels import half
        self.assertEqual(half((((0, 0, 0, 1), (0, 0, 0, 2), (0, 0, 0, 4)),)), (((0, 0, 0, 2), (0, 0, 0, 4)),))

    def test_whole(self):
        from easelwork.documents import Document
        from easelwork.layers import layer
        from easelwork.plain import whole
        below = layer(1, "solid", color=(255, 0, 0, 255))
        above = layer(2, "paint", spots=((0, 0, (0, 0, 100, 100)),))
        document = Document(2, 1, layer(0, "group", below, above))
        self.assertEqual((whole(document, 0), whole(document, 1)),
                         ((((155, 0, 100, 255), (255, 0, 0, 255)),), (((205, 0, 50, 255),),)))

    def test_plane_at(self):
        from easelwork.documents import Document
        from easelwork.layers import layer
        from easelwork.plain import plane_at
        base = layer(1, "paint", spots=((0, 0, (0, 0, 0, 128)),))
        light = layer(2, "solid", color=(255, 255, 255, 255))
        document = Document(2, 1, layer(0, "group", layer(3, "stack", base, light)))
        self.assertEqual((plane_at(document, 3, 0, 0), plane_at(document, 3, 1, 0)),
                         ((128, 128, 128, 128), (0, 0, 0, 0)))

    def test_needs(self):
        from easelwork.layers import layer
        from easelwork.needs import needs, reach
        from easelwork.regions import Region
        kernel = layer(1, "kernel", weights=((1, 1),), origin=(0, 0))
        region = Region.of([(5, 0, 6, 1)])
        self.assertEqual((needs(kernel, region).rects(), reach(kernel, region).rects()),
                         (((5, 0, 7, 1),), ((4, 0, 6, 1),)))


class StageFourTest(unittest.TestCase):
    def test_pairs(self):
        from easelwork.differ import pairs
        from easelwork.layers import layer
        one = layer(1, "paint")
        two = layer(2, "paint")
        three = layer(3, "paint")
        self.assertEqual((pairs((one, two, three), (three, one, two)), pairs((one, two), (two, one))),
                         (((0, 1), (1, 2)), ((1, 0),)))

    def test_differ(self):
        from easelwork.differ import differ
        from easelwork.layers import layer
        dot = layer(1, "paint", spots=((4, 4, (9, 9, 9, 9)),))
        old = layer(0, "group", layer(1, "paint"), layer(2, "blur"))
        new = layer(0, "group", dot, layer(2, "blur"))
        self.assertEqual(differ(old, new).rects(), ((3, 3, 6, 6),))

    def test_deeds(self):
        from easelwork.deeds import do
        from easelwork.documents import Document
        from easelwork.layers import layer
        document = Document(2, 1, layer(0, "group", layer(1, "paint", spots=((0, 0, (9, 0, 0, 9)),))))
        later, inverse = do(document, ("put", 1, ((0, 0, (9, 0, 0, 9)), (1, 0, (0, 7, 0, 8)))))
        self.assertEqual(inverse, ("put", 1, ((1, 0, (0, 0, 0, 0)),)))

    def test_strokes(self):
        from easelwork.strokes import dab_places
        self.assertEqual(dab_places(((0, 0), (3, 1), (3, -2)), 2), ((0, 0), (2, 1), (3, 0), (3, -2)))


class StageFiveTest(unittest.TestCase):
    def test_history(self):
        from easelwork.documents import Document
        from easelwork.history import History
        from easelwork.layers import layer
        history = History(Document(1, 1, layer(0, "group", layer(1, "solid"))))
        first = history.act(("set", 1, "opacity", 200))
        second = history.act(("set", 1, "opacity", 100), pen=7)
        third = history.act(("set", 1, "opacity", 50), pen=7)
        self.assertEqual((first, second, third), (1, 2, 3))
        self.assertEqual(
            (history.undo(), history.undo(), history.redo(), history.redo(), history.go(2), history.undo()),
            (1, 0, 1, 3, 2, 1))

    def test_stamps(self):
        from easelwork.documents import Document
        from easelwork.history import History
        from easelwork.layers import layer
        from easelwork.stamps import stamp
        history = History(Document(4, 4, layer(0, "group", layer(1, "paint"))))
        state = history.act(("put", 1, ((1, 0, (5, 5, 5, 5)),)))
        self.assertEqual((stamp(history, state, 1, 0, 2, 0, 0), stamp(history, state, 1, 0, 2, 1, 0)), (1, 0))

    def test_kept(self):
        from easelwork.documents import Document
        from easelwork.history import History
        from easelwork.kept import Kept
        from easelwork.layers import layer
        history = History(Document(4, 4, layer(0, "group", layer(1, "paint"))))
        kept = Kept(2)
        first = kept.ask(history, 0, 0, 0, 0, 0)
        count = kept.painted
        state = history.act(("put", 1, ((1, 0, (5, 5, 5, 5)),)))
        second = kept.ask(history, state, 0, 0, 0, 0)
        again = kept.ask(history, 0, 0, 0, 0, 0)
        self.assertEqual((second[0], again == first, count, kept.painted, len(kept)),
                         (((0, 0, 0, 0), (5, 5, 5, 5)), True, 8, 10, 4))

    def test_views(self):
        from easelwork.views import source, view_level
        view = (4, 4, 1, 3, -2, 0)
        self.assertEqual((view_level(8, 8, view), source(view, 1, 0, 1)), (1, (-3, 1)))

    def test_windows(self):
        from easelwork.documents import Document
        from easelwork.history import History
        from easelwork.kept import Kept
        from easelwork.layers import layer
        from easelwork.windows import Window
        history = History(Document(2, 1, layer(0, "group", layer(1, "paint"))))
        window = Window(history, Kept(2), (3, 1, 1, 1, 0, 0))
        history.act(("put", 1, ((1, 0, (5, 5, 5, 5)),)))
        self.assertEqual((window.refresh().rects(), window.scroll(1, 0).rects(), window.image),
                         (((1, 0, 2, 1),), ((2, 0, 3, 1),),
                          (((5, 5, 5, 5), (96, 96, 96, 255), (96, 96, 96, 255)),)))


class StageSixTest(unittest.TestCase):
    def test_journal(self):
        from easelwork.journal import bodies
        self.assertEqual(bodies('("act",("set",1,"opacity",128),0)', 1, 2, 9, 40),
                         ('1,2,9,0,("act",("set",1,"opacity",128)', '1,2,10,1,,0)'))

    def test_commands(self):
        from easelwork.commands import parse
        self.assertEqual(
            parse("repeat 2 i {paint 1 round 3 2 #ff000080 $i,-1;drop 4}"),
            ("repeat", 2, "i",
             (("paint", 1, "round", 3, 2, (255, 0, 0, 128), ((("$", "i"), -1),)), ("drop", 4))))
        with self.assertRaises(BadLine) as caught:
            parse("shift 3  -0 x")
        self.assertEqual(caught.exception.column, 10)

    def test_exports(self):
        from easelwork.exports import write_block
        self.assertEqual(write_block((((255, 0, 0, 255), (255, 0, 0, 255), (0, 0, 0, 0)),)),
                         "3 1\n2*ff0000ff 1*00000000")

    def test_desk(self):
        from easelwork.desk import Desk
        from easelwork.documents import Document
        from easelwork.layers import layer
        desk = Desk(Document(2, 1, layer(0, "group", layer(1, "paint"))))
        state = desk.line("{ paint 1 square 1 1 #ff0000ff 0,0 ; paint 1 square 1 1 #0000ffff 1,0 }")
        self.assertEqual((state, desk.line("set 1 opacity 128"), desk.line("undo"), desk.blame(1, 0)), (1, 2, 1, 1))

    def test_desk_with_a_file(self):
        from easelwork.desk import Desk
        from easelwork.disk import Disk
        from easelwork.documents import Document
        from easelwork.layers import layer
        disk = Disk(20, 64)
        desk = Desk(Document(2, 1, layer(0, "group", layer(1, "paint"))))
        desk.found(disk, 4)
        desk.line("set 1 opacity 128")
        self.assertEqual((desk.note(), Desk.reopened(disk).history.now), (True, 1))


if __name__ == "__main__":
    unittest.main()
