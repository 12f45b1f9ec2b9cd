"""Points 23 and 24: documents, the ranges of all fields, and the order of the checks."""

import unittest

from making import refusal

from easelwork.documents import Document
from easelwork.layers import layer
from easelwork.modes import MODES

PIXEL = (1, 2, 3, 4)
COLOR = (0, 255, 7, 0)
CURVE = ((0, 0), (255, 255))
LINE = ((0, 0), (3, 3))


def spread(count):
    """So many places in range, ascending."""
    return [(x, y) for y in range(-128, 192) for x in range(-128, 192)][:count]


def coverage(count):
    return tuple((x, y, 1) for x, y in spread(count))


def spots(count):
    return tuple((x, y, PIXEL) for x, y in spread(count))


def glyph(sign, advance=1, outlines=()):
    return (sign, advance, outlines)


def many_glyphs(count):
    signs = [chr(n) for n in range(33, 126) if n != 37]
    return tuple(glyph(sign) for sign in signs[:count])


COVERAGES = ((), coverage(1), coverage(4096), ((191, -128, 255), (-128, 191, 1)), ((0, 0, 1), (1, 0, 1), (0, 1, 1)))
NO_COVERAGES = (
    coverage(4097), ((0, 0, 0),), ((0, 0, 256),), ((0, 0, -1),), ((-129, 0, 1),), ((192, 0, 1),), ((0, -129, 1),),
    ((0, 192, 1),), ((1, 0, 1), (0, 0, 1)), ((0, 1, 1), (1, 0, 1)), ((0, 0, 1), (0, 0, 1)), ((0, 0),),
    ((0, 0, 1, 1),), ((0, 0, 1), ()),
)
COLORS = ((0, 0, 0, 0), (255, 255, 255, 255), (255, 0, 0, 1))
NO_COLORS = ((256, 0, 0, 0), (-1, 0, 0, 0), (0, 256, 0, 0), (0, 0, -1, 0), (0, 0, 0, 256), (0, 0, 0), (0,) * 5, ())
ENDS = ((0, 0), (-512, 512), (512, -512))
NO_ENDS = ((-513, 0), (513, 0), (0, -513), (0, 513), (0,), (0, 0, 0), ())
CURVES = (CURVE, ((0, 255), (255, 0)), tuple((x, 9) for x in range(15)) + ((255, 9),))
NO_CURVES = (
    (), ((0, 0),), ((0, 0), (254, 255)), ((1, 0), (255, 255)), ((0, 0), (9, 256), (255, 255)),
    ((0, -1), (255, 255)), ((0, 0), (9, 9), (9, 9), (255, 255)), ((0, 0), (9, 9), (8, 9), (255, 255)),
    ((0, 0, 0), (255, 255)), ((0,), (255, 255)), tuple((x, 9) for x in range(16)) + ((255, 9),),
)
OUTLINES = (LINE, LINE * 12, ((-2048, 3072), (3072, -2048, -2048, 3072)))
NO_OUTLINES = (
    ((0, 0),), (), LINE * 12 + LINE[:1], ((0, 0), (0, 0, 0)), ((0, 0), (0,)), ((0, 0), ()), ((0, 0), (0,) * 5),
    ((-2049, 0), (0, 0)), ((0, 3073), (0, 0)), ((0, 0), (0, 0, 3073, 0)), ((0, 0), (0, 0, 0, -2049)),
)

# For each field of each kind: values in range, and values out of range.
RANGES = {
    ("solid", "mode"): (MODES, ("", "Over", "normal")),
    ("solid", "opacity"): ((0, 1, 255), (-1, 256, 10 ** 30)),
    ("solid", "mask"): ((None,) + COVERAGES, NO_COVERAGES),
    ("solid", "shown"): ((True, False), ()),
    ("solid", "name"): (("", "x", " !}", "x" * 24), ("x" * 25, "~", "a~", "%", "50% on")),
    ("paint", "spots"): (
        ((), spots(1), spots(4096), ((191, -128, PIXEL), (-128, 191, (0, 0, 0, 1)))),
        (spots(4097), ((0, 0, (0, 0, 0, 0)),), ((0, 0, (2, 0, 0, 1)),), ((0, 0, (0, 0, 0, 256)),),
         ((0, 0, (0, 0, -1, 9)),), ((0, 0, (0, 0, 9)),), ((-129, 0, PIXEL),), ((192, 0, PIXEL),),
         ((0, -129, PIXEL),), ((0, 192, PIXEL),), ((1, 0, PIXEL), (0, 0, PIXEL)), ((0, 1, PIXEL), (1, 0, PIXEL)),
         ((0, 0, PIXEL), (0, 0, PIXEL)), ((0, 0),), ((0, 0, PIXEL, 0),))),
    ("solid", "color"): (COLORS, NO_COLORS),
    ("shape", "color"): (COLORS, NO_COLORS),
    ("text", "color"): (COLORS, NO_COLORS),
    ("ramp", "first"): (COLORS, NO_COLORS),
    ("ramp", "second"): (COLORS, NO_COLORS),
    ("ramp", "manner"): (("line", "ring"), ("near", "smooth", "")),
    ("ramp", "start"): (ENDS, NO_ENDS),
    ("ramp", "finish"): (ENDS, NO_ENDS),
    ("shape", "outlines"): (
        ((), (LINE,) * 8) + tuple((one,) for one in OUTLINES),
        ((LINE,) * 9,) + tuple((LINE, one) for one in NO_OUTLINES)),
    ("shape", "rule"): (("odd", "wind"), ("even", "")),
    ("text", "font"): (
        ((1, ()), (64, many_glyphs(64)), (16, (glyph("!", 0), glyph("}", 64, (LINE,) * 6))))
        + tuple((9, (glyph("a", 3, (one,)),)) for one in OUTLINES),
        ((0, ()), (65, ()), (9, many_glyphs(65)), (9,), (9, (), ()), (), (9, (glyph("b"), glyph("a"))),
         (9, (glyph("a"), glyph("a"))), (9, (glyph(" "),)), (9, (glyph("~"),)), (9, (glyph("%"),)),
         (9, (glyph(""),)), (9, (glyph("ab"),)), (9, (glyph("a", -1),)), (9, (glyph("a", 65),)),
         (9, (("a", 1),)), (9, (("a", 1, (), ()),)), (9, ((),)), (9, (glyph("a", 1, (LINE,) * 7),)))
        + tuple((9, (glyph("a", 3, (one,)),)) for one in NO_OUTLINES)),
    ("text", "scale"): ((1, 64), (0, 65, -1)),
    ("text", "place"): (((-2048, 3072), (3072, -2048)),
                        ((-2049, 0), (3073, 0), (0, -2049), (0, 3073), (0,), (0, 0, 0))),
    ("text", "words"): (("", " ", " " * 48), (" " * 49, "a", " a", "~", "%")),
    ("text", "room"): ((0, 4096), (-1, 4097)),
    ("text", "gap"): ((0, 64), (-1, 65)),
    ("text", "side"): (("left", "middle", "right"), ("center", "")),
    ("placed", "matrix"): (
        ((1, 0, 0, 0, 1, 0, 1), (4, -4, 4096, 4, 4, -4096, 1), (256, 0, -4096, 0, -256, 4096, 64),
         (0, 1, 0, 1, 0, 0, 64), (2, 0, 0, 0, 2, 0, 2)),
        ((1, 0, 0, 0, 1, 0, 0), (1, 0, 0, 0, 1, 0, 65), (5, 0, 0, 0, 1, 0, 1), (1, 5, 0, 0, 1, 0, 1),
         (1, 0, 0, -5, 1, 0, 1), (1, 0, 0, 0, -5, 0, 1), (1, 0, 4097, 0, 1, 0, 1), (1, 0, 0, 0, 1, -4097, 1),
         (0, 0, 0, 0, 1, 0, 1), (2, 4, 0, 1, 2, 0, 1), (1, 0, 0, 0, 1, 0), (1, 0, 0, 0, 1, 0, 1, 1), (),
         (257, 0, 0, 0, 1, 0, 64))),
    ("placed", "manner"): (("near", "smooth"), ("line", "ring", "")),
    ("styled", "shadows"): (
        ((), ((32, -32, 0, 1, COLOR), (-32, 32, 6, 3, COLOR), (0, 0, 1, 2, COLOR))),
        (((0, 0, 0, 1, COLOR),) * 4, ((33, 0, 0, 1, COLOR),), ((-33, 0, 0, 1, COLOR),), ((0, 33, 0, 1, COLOR),),
         ((0, -33, 0, 1, COLOR),), ((0, 0, -1, 1, COLOR),), ((0, 0, 7, 1, COLOR),), ((0, 0, 0, 0, COLOR),),
         ((0, 0, 0, 4, COLOR),), ((0, 0, 0, 1),), ((0, 0, 0, 1, COLOR, 0),), ((),))
        + tuple(((0, 0, 0, 1, color),) for color in NO_COLORS)),
    ("styled", "rims"): (
        ((), ((0, COLOR), (6, COLOR), (3, COLOR))),
        (((0, COLOR),) * 4, ((-1, COLOR),), ((7, COLOR),), ((0,),), ((0, COLOR, 0),), ((),))
        + tuple(((0, color),) for color in NO_COLORS)),
    ("table", "red"): (CURVES, NO_CURVES),
    ("table", "green"): (CURVES, NO_CURVES),
    ("table", "blue"): (CURVES, NO_CURVES),
    ("kernel", "weights"): (
        (((1,),), ((64,) * 9,) * 9, ((-64, 0),), ((1,), (2,))),
        ((), ((),), ((), ()), ((65,),), ((-65,),), ((1,) * 10,), ((1,),) * 10, ((1, 1), (1,)), ((1,), (1, 1)))),
    ("kernel", "origin"): (((0, 0),), ((1, 0), (0, 1), (-1, 0), (0, -1), (0,), (0, 0, 0), ())),
    ("kernel", "divisor"): ((1, 4096), (0, 4097, -1)),
    ("blur", "radius"): ((0, 6), (-1, 7)),
    ("blur", "times"): ((1, 3), (0, 4)),
    ("rank", "across"): ((0, 3), (-1, 4)),
    ("rank", "down"): ((0, 3), (-1, 4)),
    ("rank", "which"): (("least", "middle", "greatest"), ("most", "")),
}


def with_child(*arguments, **fields):
    """A document with one layer below the root."""
    return Document(2, 3, layer(0, "group", layer(*arguments, **fields)))


def chain(depth, first=0, **fields):
    """Groups one in another, the first one with this number, the last one with these fields."""
    if depth == 1:
        return layer(first, "group", **fields)
    return layer(first, "group", chain(depth - 1, first + 1, **fields))


def broad(*counts):
    """A root with so many groups as there are counts, each with this count of solids."""
    groups = [layer(100 + k, "group", *[layer(1000 + 20 * k + i, "solid") for i in range(count)])
              for k, count in enumerate(counts)]
    return layer(0, "group", *groups)


class RangesTest(unittest.TestCase):
    def test_every_field_has_its_range_tested(self):
        from easelwork.layers import FIELDS, HEAD
        tested = set(RANGES)
        self.assertEqual({("solid", word) for word in HEAD} - tested, set())
        self.assertEqual({(kind, word) for kind, words in FIELDS.items() for word in words} - tested, set())

    def test_values_in_range(self):
        for (kind, word), (good, _) in RANGES.items():
            for value in good:
                made = with_child(1, kind, **{word: value})
                self.assertEqual(made.layer(1), layer(1, kind, **{word: value}))

    def test_values_out_of_range(self):
        for (kind, word), (_, bad) in RANGES.items():
            for value in bad:
                self.assertEqual(refusal(with_child, 1, kind, **{word: value}), ("BadValue", word), (kind, value))

    def test_the_head_of_every_kind_and_of_the_root_is_checked(self):
        from easelwork.layers import HEAD, KINDS
        for word in HEAD:
            for value in RANGES["solid", word][1]:
                self.assertEqual(refusal(Document, 2, 3, layer(0, "group", **{word: value})), ("BadValue", word))
        for kind in KINDS:
            for word in HEAD:
                for value in RANGES["solid", word][1][:2]:
                    self.assertEqual(refusal(with_child, 1, kind, **{word: value}), ("BadValue", word))

    def test_words_are_signs_of_the_font(self):
        font = (9, (glyph("a"), glyph("c")))
        for words in ("", "a", " ac  ca ", "a" * 48):
            with_child(1, "text", font=font, words=words)
        for words in ("b", "a b", "A", "a" * 49):
            self.assertEqual(refusal(with_child, 1, "text", font=font, words=words), ("BadValue", "words"))

    def test_the_origin_lies_in_the_weights(self):
        weights = ((1, 1, 1), (1, 1, 1))
        for origin in ((0, 0), (2, 0), (0, 1), (2, 1)):
            with_child(1, "kernel", weights=weights, origin=origin)
        for origin in ((3, 0), (0, 2), (1, 2), (-1, 0), (0, -1)):
            self.assertEqual(refusal(with_child, 1, "kernel", weights=weights, origin=origin), ("BadValue", "origin"))

    def test_numbers(self):
        for number in (1, 9999):
            with_child(number, "solid")
        for number in (-1, 10000, 10 ** 30):
            self.assertEqual(refusal(with_child, number, "solid"), ("BadValue", "number"))


class OrderTest(unittest.TestCase):
    """Of several errors the one that is listed first is raised."""

    def test_the_fields_of_a_layer(self):
        # Fields may fail in this order; from each pair of neighbours the first one is told.
        bad = {"mode": "x", "opacity": 256, "mask": ((0, 0, 0),), "shown": True, "name": "%"}
        text = {"font": (0, ()), "scale": 0, "place": (), "words": " " * 49, "color": (), "room": -1, "gap": -1,
                "side": ""}
        table = [("text", dict(bad, **text)),
                 ("ramp", dict(bad, manner="", start=(), finish=(), first=(), second=())),
                 ("shape", dict(bad, outlines=((),), rule="", color=())),
                 ("placed", dict(bad, matrix=(), manner="")),
                 ("styled", dict(bad, shadows=((),), rims=((),))),
                 ("table", dict(bad, red=(), green=(), blue=())),
                 ("kernel", dict(bad, weights=(), origin=(), divisor=0)),
                 ("blur", dict(bad, radius=-1, times=0)),
                 ("rank", dict(bad, across=-1, down=-1, which=""))]
        for kind, fields in table:
            words = [word for word in fields if word != "shown"]
            for k in range(len(words)):
                rest = {word: fields[word] for word in reversed(words[k:])}
                self.assertEqual(refusal(with_child, 1, kind, **rest), ("BadValue", words[k]))

    def test_the_checks_of_one_layer(self):
        deep = layer(6, "solid", layer(5, "solid"))
        many = tuple(layer(10 + k, "solid") for k in range(17))
        made = (-1, "grope", ("x",) * 5, (), (deep,))
        self.assertEqual(refusal(Document, 2, 3, layer(0, "group", made)), ("BadValue", "number"))
        self.assertEqual(refusal(Document, 2, 3, layer(0, "group", (1,) + made[1:])), ("BadValue", "kind"))
        self.assertEqual(refusal(with_child, 1, "solid", deep, color=()), ("BadValue", "color"))
        self.assertEqual(refusal(with_child, 1, "solid", *many), ("BadPlace",))
        self.assertEqual(refusal(with_child, 1, "group", *many), ("TooLarge", "children"))
        for kind in ("paint", "solid", "ramp", "shape", "text", "table", "kernel", "blur", "rank"):
            self.assertEqual(refusal(with_child, 1, kind, layer(2, "solid")), ("BadPlace",))
        for kind in ("group", "stack", "placed", "styled", "pass"):
            with_child(1, kind, layer(2, "solid"), *many[:15])
            self.assertEqual(refusal(with_child, 1, kind, *many), ("TooLarge", "children"))
        # The seventh layer has too many children, and it stands too deep.
        tree = layer(7, "group", *many)
        for number in range(6, 0, -1):
            tree = layer(number, "group", tree)
        self.assertEqual(refusal(Document, 2, 3, layer(0, "group", *tree[4])), ("TooLarge", "children"))

    def test_depth(self):
        Document(2, 3, chain(6))
        self.assertEqual(refusal(Document, 2, 3, chain(7)), ("TooLarge", "depth"))
        self.assertEqual(refusal(Document, 2, 3, chain(7, opacity=-1)), ("BadValue", "opacity"))
        self.assertEqual(refusal(Document, 2, 3, chain(8, opacity=-1)), ("TooLarge", "depth"))

    def test_layers_are_checked_in_the_order_of_the_walk(self):
        first = layer(1, "group", layer(2, "solid", opacity=256), mode="over")
        second = layer(3, "blur", radius=7)
        self.assertEqual(refusal(Document, 2, 3, layer(0, "group", first, second)), ("BadValue", "opacity"))
        self.assertEqual(refusal(Document, 2, 3, layer(0, "group", second, first)), ("BadValue", "radius"))
        self.assertEqual(refusal(Document, 2, 3, layer(0, "group", first, second, name="%")), ("BadValue", "name"))
        self.assertEqual(refusal(Document, 2, 3, layer(0, "group", layer(1, "solid", first), second)), ("BadPlace",))

    def test_taken_numbers_come_after_all_layers(self):
        twice = (layer(1, "solid"), layer(2, "solid"), layer(2, "solid"), layer(1, "solid"))
        self.assertEqual(refusal(Document, 2, 3, layer(0, "group", *twice)), ("Taken", 2))
        self.assertEqual(refusal(Document, 2, 3, layer(0, "group", layer(1, "group", layer(0, "solid")))),
                         ("Taken", 0))
        wrong = twice + (layer(5, "solid", opacity=-1),)
        self.assertEqual(refusal(Document, 2, 3, layer(0, "group", *wrong)), ("BadValue", "opacity"))

    def test_the_checks_of_a_document(self):
        bad_root = layer(1, "group", layer(2, "solid", opacity=-1))
        bad = ((0, 0, 0),)
        self.assertEqual(refusal(Document, 0, 65, bad_root, chosen=bad), ("BadValue", "wide"))
        self.assertEqual(refusal(Document, 64, 65, bad_root, chosen=bad), ("BadValue", "high"))
        self.assertEqual(refusal(Document, 64, 64, bad_root, chosen=bad), ("BadPlace",))
        self.assertEqual(refusal(Document, 64, 64, layer(0, "group", *bad_root[4]), chosen=bad),
                         ("BadValue", "opacity"))
        self.assertEqual(refusal(Document, 1, 1, broad(16, 16, 5), chosen=bad), ("TooLarge", "layers"))
        self.assertEqual(refusal(Document, 1, 1, broad(16, 16, 4), chosen=bad), ("BadValue", "chosen"))
        Document(1, 1, broad(16, 16, 4))
        twice = layer(0, "group", *(broad(16, 16, 5)[4] + (layer(100, "solid"),)))
        self.assertEqual(refusal(Document, 1, 1, twice), ("Taken", 100))

    def test_sizes(self):
        for wide in (0, -1, 65, 10 ** 30):
            self.assertEqual(refusal(Document, wide, 3, layer(0, "group")), ("BadValue", "wide"))
            self.assertEqual(refusal(Document, 3, wide, layer(0, "group")), ("BadValue", "high"))
        for root in (layer(1, "group"), layer(0, "stack"), layer(0, "solid"), layer(0, "pass"), layer(-1, "group")):
            self.assertEqual(refusal(Document, 1, 1, root), ("BadPlace",))
        self.assertEqual(refusal(Document, 1, 1, (0, "grope", (), (), ())), ("BadPlace",))

    def test_selections(self):
        for chosen in (None,) + COVERAGES:
            self.assertEqual(Document(1, 1, layer(0, "group"), chosen=chosen).chosen, chosen)
        for chosen in NO_COVERAGES:
            self.assertEqual(refusal(Document, 1, 1, layer(0, "group"), chosen=chosen), ("BadValue", "chosen"))


class DocumentTest(unittest.TestCase):
    def setUp(self):
        self.deep = layer(4, "group", layer(9, "blur"), layer(2, "paint"))
        self.root = layer(0, "group", layer(7, "solid"), self.deep, name="all")
        self.document = Document(5, 6, self.root, chosen=((1, 1, 9),))

    def test_attributes(self):
        made = self.document
        self.assertEqual((made.wide, made.high, made.root, made.chosen), (5, 6, self.root, ((1, 1, 9),)))
        self.assertEqual(made.pack(), (5, 6, self.root, ((1, 1, 9),)))
        self.assertIsNone(Document(5, 6, self.root).chosen)

    def test_layers(self):
        self.assertEqual(self.document.layer(0), self.root)
        self.assertEqual(self.document.layer(4), self.deep)
        self.assertEqual(self.document.layer(9), layer(9, "blur"))
        self.assertEqual(self.document.numbers(), (0, 7, 4, 9, 2))

    def test_holders(self):
        self.assertEqual([self.document.holder(number) for number in (0, 7, 4, 9, 2)],
                         [None, (0, 0), (0, 1), (4, 0), (4, 1)])

    def test_numbers_that_no_layer_has(self):
        for number in (1, -1, 10000, 10 ** 60 - 1):
            self.assertEqual(refusal(self.document.layer, number), ("NoLayer", number))
            self.assertEqual(refusal(self.document.holder, number), ("NoLayer", number))

    def test_equality(self):
        same = Document(5, 6, self.root, chosen=((1, 1, 9),))
        self.assertTrue(self.document == same)
        self.assertFalse(self.document != same)
        for other in (Document(4, 6, self.root, chosen=((1, 1, 9),)), Document(5, 5, self.root, chosen=((1, 1, 9),)),
                      Document(5, 6, self.root), Document(5, 6, self.root, chosen=()),
                      Document(5, 6, layer(0, "group"), chosen=((1, 1, 9),)), self.document.pack(), None, 5, "x"):
            self.assertFalse(self.document == other)
            self.assertTrue(self.document != other)
        self.assertFalse(Document(5, 6, self.root) == Document(5, 6, self.root, chosen=()))


if __name__ == "__main__":
    unittest.main()
