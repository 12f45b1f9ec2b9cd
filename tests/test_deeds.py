"""Points 41, 42 and 43: deeds, the order of their checks, and their inverses."""

import unittest
from random import Random

import doing
import growing
from making import refusal

from easelwork.deeds import do
from easelwork.documents import Document
from easelwork.errors import EaselError
from easelwork.layers import FIELDS, HEAD, field, layer, with_field

CLEAR = (0, 0, 0, 0)
RED = (9, 0, 0, 9)
BLUE = (0, 0, 7, 8)
FULL = tuple((x, y, RED) for y in range(64) for x in range(64))


def small():
    """A document with a layer of most kinds: 1 paint, 2 group of 3 solid and 4 blur, 5 text, 6 kernel, 7 placed."""
    font = (9, (("a", 9, ()), ("b", 9, ())))
    return Document(3, 2, layer(
        0, "group",
        layer(1, "paint", spots=((0, 0, RED), (2, 1, BLUE))),
        layer(2, "group", layer(3, "solid"), layer(4, "blur")),
        layer(5, "text", font=font, words="ab"),
        layer(6, "kernel", weights=((1, 1), (1, 1)), origin=(1, 1)),
        layer(7, "placed", layer(8, "paint", spots=FULL)),
    ), chosen=((0, 0, 9),))


def child_numbers(document, number):
    return tuple(child[0] for child in document.layer(number)[4])


class DeedCase(unittest.TestCase):
    def setUp(self):
        self.document = small()

    def refused(self, deed, *what):
        before = self.document.pack()
        self.assertEqual(refusal(do, self.document, deed), what, deed)
        self.assertEqual(self.document.pack(), before)

    def done(self, deed, inverse):
        """The document that the deed makes; its inverse is as told and leads back."""
        before = self.document.pack()
        later, back = do(self.document, deed)
        self.assertEqual(back, inverse)
        self.assertEqual(self.document.pack(), before)
        again, forth = do(later, back)
        self.assertTrue(again == self.document)
        self.assertTrue(do(self.document, forth)[0] == later)
        self.assertEqual(do(self.document, forth)[1], back)
        # The document is as good as one that is made of its parts.
        same = Document(later.wide, later.high, later.root, chosen=later.chosen)
        self.assertEqual(same.pack(), later.pack())
        self.assertEqual(same.numbers(), later.numbers())
        self.assertEqual([same.holder(n) for n in same.numbers()], [later.holder(n) for n in same.numbers()])
        self.assertEqual([same.layer(n) for n in same.numbers()], [later.layer(n) for n in same.numbers()])
        return later


class FormTest(DeedCase):
    def test_words_and_counts_of_items(self):
        good = {"put": (1, ((0, 0, CLEAR),)), "set": (1, "opacity", 5), "add": (0, 0, layer(9, "solid")),
                "drop": (1,), "shift": (1, 2, 0), "choose": (None,), "size": (5, 5),
                "several": ((("drop", 1),),)}
        for word, rest in good.items():
            do(self.document, (word,) + rest)
            self.refused((word,) + rest + (0,), "BadValue", "deed")
            self.refused((word,) + rest[:-1], "BadValue", "deed")
            self.refused((word.upper(),) + rest, "BadValue", "deed")
        for deed in (("",), ("undo",), ("put",), ("several",)):
            self.refused(deed, "BadValue", "deed")


class PutTest(DeedCase):
    def test_spots_are_put_replaced_and_removed(self):
        later = self.done(("put", 1, ((0, 0, BLUE), (1, 0, RED), (2, 1, CLEAR))),
                          ("put", 1, ((0, 0, RED), (1, 0, CLEAR), (2, 1, BLUE))))
        self.assertEqual(later.layer(1), layer(1, "paint", spots=((0, 0, BLUE), (1, 0, RED))))

    def test_the_inverse_holds_changed_places_only(self):
        later = self.done(("put", 1, ((0, 0, RED), (1, 0, CLEAR), (1, 1, RED), (2, 1, BLUE))),
                          ("put", 1, ((1, 1, CLEAR),)))
        self.assertEqual(later.layer(1)[3], (((0, 0, RED), (1, 1, RED), (2, 1, BLUE)),))

    def test_the_ends_of_the_range(self):
        later = self.done(("put", 1, ((191, -128, RED), (-128, 191, RED))),
                          ("put", 1, ((191, -128, CLEAR), (-128, 191, CLEAR))))
        self.assertEqual(later.layer(1)[3][0][0], (191, -128, RED))

    def test_where_it_is_refused(self):
        bad = ((0, 0, (2, 0, 0, 1)),)
        self.refused(("put", 99, bad), "NoLayer", 99)
        for number in (0, 2, 3, 4, 5):
            self.refused(("put", number, bad), "BadPlace")
        for spots in (bad, ((192, 0, RED),), ((0, -129, RED),), ((1, 0, RED), (0, 0, RED)),
                      ((0, 1, RED), (0, 0, RED)), ((0, 0, RED), (0, 0, RED)), ((0, 0),), ((0, 0, RED, 1),),
                      ((0, 0, RED[:3]),), ((0, 0, (0, 0, 0, 256)),),
                      tuple((x, y, RED) for y in range(65) for x in range(64))):
            self.refused(("put", 1, spots), "BadValue", "spots")

    def test_no_change(self):
        for spots in ((), ((1, 0, CLEAR),), ((0, 0, RED),), ((0, 0, RED), (1, 1, CLEAR), (2, 1, BLUE))):
            self.refused(("put", 1, spots), "NoChange")

    def test_too_many_spots(self):
        self.refused(("put", 8, ((64, 0, RED),)), "TooLarge", "spots")
        self.done(("put", 8, ((0, 0, CLEAR), (64, 0, RED))), ("put", 8, ((0, 0, RED), (64, 0, CLEAR))))
        self.refused(("put", 8, FULL), "NoChange")
        self.done(("put", 8, tuple((x, y, BLUE) for x, y, _ in FULL)), ("put", 8, FULL))


class SetTest(DeedCase):
    def test_fields_of_the_head_and_of_the_body(self):
        self.assertEqual(self.done(("set", 1, "opacity", 7), ("set", 1, "opacity", 255)).layer(1),
                         with_field(self.document.layer(1), "opacity", 7))
        self.done(("set", 4, "radius", 3), ("set", 4, "radius", 1))
        self.done(("set", 3, "mask", ()), ("set", 3, "mask", None))
        self.done(("set", 2, "shown", False), ("set", 2, "shown", True))
        self.assertEqual(self.done(("set", 0, "name", "all"), ("set", 0, "name", "")).root[2][4], "all")

    def test_every_field_but_spots_can_be_set(self):
        chance = Random(1)
        for kind, words in FIELDS.items():
            for word in HEAD + words:
                old = layer(1, kind)
                self.document = Document(3, 3, layer(0, "group", old))
                for value in [doing.new_value(chance, old, word) for _ in range(9)]:
                    if word == "spots":
                        self.refused(("set", 1, word, value), "BadValue", "spots")
                    elif value == field(old, word):
                        self.refused(("set", 1, word, value), "NoChange")
                    elif word not in ("words", "origin", "weights"):
                        self.done(("set", 1, word, value), ("set", 1, word, field(old, word)))

    def test_where_it_is_refused(self):
        self.refused(("set", 99, "color", 5), "NoLayer", 99)
        for number, name in ((1, "color"), (3, "radius"), (2, "number"), (2, ""), (0, "kind"), (1, "spots"),
                             (3, "spots")):
            self.refused(("set", number, name, ()), "BadValue", name)
        self.refused(("set", 1, "opacity", 256), "BadValue", "opacity")
        self.refused(("set", 3, "color", (0, 0, 0)), "BadValue", "color")
        self.refused(("set", 0, "mode", "x"), "BadValue", "mode")
        self.refused(("set", 1, "opacity", 255), "NoChange")
        self.refused(("set", 3, "color", (0, 0, 0, 255)), "NoChange")

    def test_fields_that_depend_on_each_other(self):
        self.refused(("set", 5, "font", (9, (("a", 9, ()),))), "BadValue", "words")
        self.refused(("set", 5, "font", (0, ())), "BadValue", "font")
        self.refused(("set", 5, "words", "abc"), "BadValue", "words")
        self.done(("set", 5, "font", (9, (("a", 1, ()), ("b", 9, ()), ("c", 9, ())))),
                  ("set", 5, "font", (9, (("a", 9, ()), ("b", 9, ())))))
        self.refused(("set", 6, "weights", ((1, 1),)), "BadValue", "origin")
        self.refused(("set", 6, "weights", ()), "BadValue", "weights")
        self.refused(("set", 6, "origin", (2, 0)), "BadValue", "origin")
        self.done(("set", 6, "weights", ((1, 1, 1),) * 2), ("set", 6, "weights", ((1, 1), (1, 1))))


class AddTest(DeedCase):
    def test_at_each_index(self):
        tree = layer(50, "group", layer(51, "blur"))
        for at in range(6):
            later = self.done(("add", 0, at, tree), ("drop", 50))
            self.assertEqual(child_numbers(later, 0), (1, 2, 5, 6, 7)[:at] + (50,) + (1, 2, 5, 6, 7)[at:])
            self.assertEqual(later.layer(51), layer(51, "blur"))
        self.assertEqual(child_numbers(self.done(("add", 7, 1, tree), ("drop", 50)), 7), (8, 50))

    def test_where_it_is_refused(self):
        bad = layer(1, "solid", opacity=-1)
        self.refused(("add", 99, 9, bad), "NoLayer", 99)
        for parent, at in ((1, 0), (3, 0), (4, 0), (5, 0), (0, -1), (0, 6), (2, 3), (2, 10 ** 30)):
            self.refused(("add", parent, at, bad), "BadPlace")
        self.refused(("add", 0, 0, bad), "BadValue", "opacity")
        self.refused(("add", 0, 0, layer(-1, "solid")), "BadValue", "number")
        self.refused(("add", 0, 0, layer(10000, "solid")), "BadValue", "number")
        self.refused(("add", 0, 0, (60,) + ("grope",) + bad[2:]), "BadValue", "kind")
        self.refused(("add", 0, 0, layer(60, "solid", layer(61, "solid"))), "BadPlace")
        self.refused(("add", 0, 0, layer(60, "group", layer(61, "solid"), layer(61, "solid"))), "Taken", 61)

    def test_taken_numbers(self):
        self.refused(("add", 0, 0, layer(0, "group")), "Taken", 0)
        self.refused(("add", 0, 0, layer(60, "group", layer(8, "solid"), layer(4, "solid"))), "Taken", 8)
        # A number that the tree has twice is found before one that the document has.
        self.refused(("add", 0, 0, layer(4, "group", layer(61, "solid"), layer(61, "solid"))), "Taken", 61)

    def test_depth(self):
        tree = layer(104, "group")
        for number in range(103, 99, -1):
            tree = layer(number, "group", tree)
        self.done(("add", 0, 0, tree), ("drop", 100))
        self.refused(("add", 2, 0, tree), "TooLarge", "depth")
        self.refused(("add", 2, 0, (1,) + tree[1:]), "TooLarge", "depth")

    def test_too_many_children_and_layers(self):
        groups = [layer(100 + k, "group", *[layer(200 + 20 * k + i, "solid") for i in range(16)]) for k in range(2)]
        self.document = Document(1, 1, layer(0, "group", *groups, layer(1, "group")))
        self.refused(("add", 100, 16, layer(900, "solid")), "TooLarge", "children")
        self.refused(("add", 100, 16, layer(1, "solid")), "Taken", 1)
        fifteen = do(self.document, ("drop", 200))[0]
        self.assertEqual(len(do(fifteen, ("add", 100, 15, layer(900, "solid")))[0].layer(100)[4]), 16)
        self.assertEqual(len(do(fifteen, ("shift", 220, 100, 15))[0].layer(100)[4]), 16)
        five = layer(900, "group", *[layer(901 + k, "solid") for k in range(4)])
        self.refused(("add", 1, 0, five), "TooLarge", "layers")
        self.refused(("add", 100, 0, five), "TooLarge", "children")
        self.done(("add", 1, 0, five[:4] + (five[4][:3],)), ("drop", 900))
        self.refused(("add", 1, 0, layer(900, "group", *[layer(901 + k, "solid") for k in range(17)])),
                     "TooLarge", "children")


class DropTest(DeedCase):
    def test_a_layer_is_gone_with_its_tree(self):
        later = self.done(("drop", 2), ("add", 0, 1, self.document.layer(2)))
        self.assertEqual(later.numbers(), (0, 1, 5, 6, 7, 8))
        self.done(("drop", 4), ("add", 2, 1, layer(4, "blur")))

    def test_where_it_is_refused(self):
        self.refused(("drop", 99), "NoLayer", 99)
        self.refused(("drop", 0), "BadPlace")


class ShiftTest(DeedCase):
    def test_within_one_holder(self):
        later = self.done(("shift", 1, 0, 2), ("shift", 1, 0, 0))
        self.assertEqual(child_numbers(later, 0), (2, 5, 1, 6, 7))
        later = self.done(("shift", 7, 0, 0), ("shift", 7, 0, 4))
        self.assertEqual(child_numbers(later, 0), (7, 1, 2, 5, 6))
        self.done(("shift", 1, 0, 4), ("shift", 1, 0, 0))

    def test_to_another_holder(self):
        later = self.done(("shift", 2, 7, 1), ("shift", 2, 0, 1))
        self.assertEqual((child_numbers(later, 0), child_numbers(later, 7)), ((1, 5, 6, 7), (8, 2)))
        later = self.done(("shift", 3, 0, 5), ("shift", 3, 2, 0))
        self.assertEqual((child_numbers(later, 0), child_numbers(later, 2)), ((1, 2, 5, 6, 7, 3), (4,)))

    def test_where_it_is_refused(self):
        self.refused(("shift", 98, 99, 9), "NoLayer", 98)
        self.refused(("shift", 0, 99, 9), "NoLayer", 99)
        for number, parent, at in ((0, 2, 0), (0, 0, 0), (2, 2, 0), (2, 3, 0), (2, 4, 0), (1, 3, 0), (1, 5, 0),
                                   (1, 0, -1), (1, 0, 5), (1, 2, 3), (3, 2, 2)):
            self.refused(("shift", number, parent, at), "BadPlace")
        for number, parent, at in ((1, 0, 0), (7, 0, 4), (4, 2, 1)):
            self.refused(("shift", number, parent, at), "NoChange")

    def test_too_many_children(self):
        groups = [layer(100 + k, "group", *[layer(200 + 20 * k + i, "solid") for i in range(16)]) for k in range(2)]
        self.document = Document(1, 1, layer(0, "group", *groups))
        self.refused(("shift", 200, 101, 0), "TooLarge", "children")
        self.refused(("shift", 200, 101, 17), "BadPlace")
        self.done(("shift", 200, 100, 15), ("shift", 200, 100, 0))
        self.refused(("shift", 200, 100, 16), "BadPlace")

    def test_depth(self):
        deep = layer(4, "group")
        for number in (3, 2, 1):
            deep = layer(number, "group", deep)
        self.document = Document(1, 1, layer(0, "group", deep, layer(5, "group", layer(6, "solid")), layer(7, "blur")))
        self.done(("shift", 7, 4, 0), ("shift", 7, 0, 2))
        self.refused(("shift", 5, 4, 0), "TooLarge", "depth")
        self.done(("shift", 5, 3, 1), ("shift", 5, 0, 1))
        full = [layer(20 + k, "solid") for k in range(16)]
        self.document = Document(1, 1, layer(0, "group", layer(1, "group", layer(2, "group", layer(3, "group",
                                 layer(4, "group", *full)))), layer(5, "group", layer(6, "solid"))))
        self.refused(("shift", 5, 4, 0), "TooLarge", "children")


class ChooseAndSizeTest(DeedCase):
    def test_selections(self):
        for chosen in (None, (), ((0, 0, 8),), ((-128, -128, 1), (191, 191, 255))):
            later = self.done(("choose", chosen), ("choose", ((0, 0, 9),)))
            self.assertEqual(later.chosen, chosen)
        self.refused(("choose", ((0, 0, 9),)), "NoChange")
        for chosen in (((0, 0, 0),), ((0, 0, 256),), ((192, 0, 1),), ((1, 0, 1), (0, 0, 1)), ((0, 0),),
                       tuple((x, y, 1) for y in range(65) for x in range(64))):
            self.refused(("choose", chosen), "BadValue", "chosen")

    def test_all_selected_and_none_selected_are_not_equal(self):
        self.document = Document(1, 1, layer(0, "group"))
        self.refused(("choose", None), "NoChange")
        self.done(("choose", ()), ("choose", None))
        self.document = Document(1, 1, layer(0, "group"), chosen=())
        self.refused(("choose", ()), "NoChange")
        self.done(("choose", None), ("choose", ()))

    def test_sizes(self):
        for wide, high in ((64, 2), (3, 64), (1, 1), (2, 3)):
            later = self.done(("size", wide, high), ("size", 3, 2))
            self.assertEqual((later.wide, later.high, later.root), (wide, high, self.document.root))
        self.refused(("size", 3, 2), "NoChange")
        self.refused(("size", 0, 0), "BadValue", "wide")
        self.refused(("size", 65, 2), "BadValue", "wide")
        self.refused(("size", 3, 65), "BadValue", "high")
        self.refused(("size", 3, -1), "BadValue", "high")


class SeveralTest(DeedCase):
    def test_deeds_are_done_one_after_the_other(self):
        later = self.done(("several", (("set", 3, "opacity", 5), ("shift", 3, 0, 0), ("drop", 2))),
                          ("several", (("add", 0, 2, layer(2, "group", layer(4, "blur"))), ("shift", 3, 2, 0),
                                       ("set", 3, "opacity", 255))))
        self.assertEqual(later.numbers(), (0, 3, 1, 5, 6, 7, 8))
        later = self.done(("several", (("drop", 1), ("add", 0, 0, layer(1, "solid")))),
                          ("several", (("drop", 1), ("add", 0, 0, self.document.layer(1)))))
        self.assertEqual(later.layer(1), layer(1, "solid"))

    def test_deeds_that_cancel_out_may_stand_in_one(self):
        later = self.done(("several", (("size", 9, 9), ("size", 3, 2))), ("several", (("size", 9, 9), ("size", 3, 2))))
        self.assertTrue(later == self.document)

    def test_counts_and_words(self):
        self.refused(("several", ()), "BadValue", "several")
        many = tuple(("size", 1 + k % 2, 1) for k in range(61))
        self.refused(("several", many), "BadValue", "several")
        later, _ = do(self.document, ("several", many[:60]))
        self.assertEqual(later.wide, 2)
        self.refused(("several", (("drop", 99), ("several", (("drop", 1),)))), "BadValue", "several")

    def test_the_first_error_counts_and_nothing_is_done(self):
        self.refused(("several", (("drop", 1), ("drop", 1))), "NoLayer", 1)
        self.refused(("several", (("drop", 2), ("size", 0, 0), ("drop", 2))), "BadValue", "wide")
        self.refused(("several", (("size", 5, 5), ("size", 5, 5))), "NoChange")
        self.refused(("several", (("drop", 1), ("fly", 1), ("drop", 1))), "BadValue", "deed")
        self.refused(("several", (("drop", 99), ("fly", 1))), "NoLayer", 99)


class GuaranteeTest(unittest.TestCase):
    def test_every_deed_is_undone_by_its_inverse(self):
        chance = Random(2)
        words = {}
        for _ in range(150):
            document = growing.document(chance, deep=3)
            for _ in range(8):
                deed = doing.some_deed(chance, document)
                before = document.pack()
                try:
                    later, inverse = do(document, deed)
                except EaselError:
                    self.assertEqual(document.pack(), before)
                    continue
                again, forth = do(later, inverse)
                self.assertTrue(again == document)
                made, back = do(document, forth)
                self.assertTrue(made == later)
                self.assertEqual(back, inverse)
                self.assertEqual(document.pack(), before)
                Document(later.wide, later.high, later.root, chosen=later.chosen)
                words[deed[0]] = words.get(deed[0], 0) + 1
                document = later
        for word in ("put", "set", "add", "drop", "shift", "choose", "size", "several"):
            self.assertGreater(words[word], 9)

    def test_a_refused_value_would_have_made_no_document(self):
        chance = Random(3)
        numbers = ("opacity", "radius", "times", "across", "down", "divisor", "scale", "room", "gap")
        refused = 0
        for _ in range(100):
            document = growing.document(chance, deep=3)
            held = document.layer(chance.choice(document.numbers()))
            for name in [name for name in HEAD + FIELDS[held[1]] if name in numbers]:
                value = chance.choice((-1, 99999, 7))
                what = refusal(do, document, ("set", held[0], name, value))
                root = replaced(document.root, with_field(held, name, value))
                if what != ("NoChange",):
                    self.assertEqual(refusal(Document, document.wide, document.high, root), what)
                    refused += what is not None
        self.assertGreater(refused, 50)


def replaced(tree, held):
    if tree[0] == held[0]:
        return held
    return tree[:4] + (tuple(replaced(child, held) for child in tree[4]),)


if __name__ == "__main__":
    unittest.main()
