"""Points 21 and 22: layers, their fields and their walks."""

import inspect
import unittest

from making import refusal

from easelwork import layers
from easelwork.layers import EFFECTS, FIELDS, HEAD, HOLDERS, KINDS, field, layer, layer_of, walk, with_field

DEFAULTS = {
    "paint": {"spots": ()},
    "solid": {"color": (0, 0, 0, 255)},
    "ramp": {"manner": "line", "start": (0, 0), "finish": (0, 0), "first": (0, 0, 0, 255),
             "second": (255, 255, 255, 255)},
    "shape": {"outlines": (), "rule": "wind", "color": (0, 0, 0, 255)},
    "text": {"font": (16, ()), "scale": 16, "place": (0, 0), "words": "", "color": (0, 0, 0, 255), "room": 256,
             "gap": 16, "side": "left"},
    "group": {},
    "stack": {},
    "placed": {"matrix": (1, 0, 0, 0, 1, 0, 1), "manner": "near"},
    "styled": {"shadows": (), "rims": ()},
    "pass": {},
    "table": {"red": ((0, 0), (255, 255)), "green": ((0, 0), (255, 255)), "blue": ((0, 0), (255, 255))},
    "kernel": {"weights": ((1,),), "origin": (0, 0), "divisor": 1},
    "blur": {"radius": 1, "times": 1},
    "rank": {"across": 1, "down": 1, "which": "middle"},
}
HEAD_DEFAULTS = {"mode": "over", "opacity": 255, "mask": None, "shown": True, "name": ""}


def family():
    """A tree whose numbers are in the order of its walk, but for a number that is there twice."""
    inner = layer(2, "group", layer(3, "solid"), layer(4, "stack", layer(5, "blur")))
    return layer(1, "group", inner, layer(6, "pass"), layer(3, "paint"))


class TablesTest(unittest.TestCase):
    def test_the_words(self):
        self.assertEqual(KINDS, tuple(DEFAULTS))
        self.assertEqual(EFFECTS, ("pass", "table", "kernel", "blur", "rank"))
        self.assertEqual(HOLDERS, ("group", "stack", "placed", "styled", "pass"))
        self.assertEqual(HEAD, tuple(HEAD_DEFAULTS))

    def test_the_fields(self):
        self.assertEqual(FIELDS, {kind: tuple(values) for kind, values in DEFAULTS.items()})


class LayerTest(unittest.TestCase):
    def test_default_values(self):
        for kind, values in DEFAULTS.items():
            self.assertEqual(layer(7, kind),
                             (7, kind, tuple(HEAD_DEFAULTS.values()), tuple(values.values()), ()))

    def test_each_field_can_be_passed(self):
        for kind, values in DEFAULTS.items():
            for word in list(HEAD_DEFAULTS) + list(values):
                expected = dict(HEAD_DEFAULTS, **values)
                expected[word] = "new"
                made = layer(7, kind, **{word: "new"})
                self.assertEqual(made[2] + made[3], tuple(expected.values()))

    def test_the_order_of_keywords_does_not_matter(self):
        made = layer(1, "blur", times=3, name="soft", radius=2, mode="plus")
        self.assertEqual(made, (1, "blur", ("plus", 255, None, True, "soft"), (2, 3), ()))

    def test_children_are_passed_from_the_lowest_on(self):
        first, second = layer(1, "solid"), layer(2, "blur")
        self.assertEqual(layer(0, "group", first, second)[4], (first, second))

    def test_unknown_kinds_and_fields(self):
        self.assertEqual(refusal(layer, 1, "grope"), ("BadValue", "kind"))
        self.assertEqual(refusal(layer, 1, "grope", colour=1), ("BadValue", "kind"))
        self.assertEqual(refusal(layer, 1, ""), ("BadValue", "kind"))
        self.assertEqual(refusal(layer, 1, "solid", spots=()), ("BadValue", "spots"))
        self.assertEqual(refusal(layer, 1, "solid", color=1, times=1, spots=()), ("BadValue", "times"))
        self.assertEqual(refusal(layer, 1, "solid", spots=(), times=1), ("BadValue", "spots"))
        for kind, values in DEFAULTS.items():
            for word in {word for others in DEFAULTS.values() for word in others} - set(values):
                self.assertEqual(refusal(layer, 1, kind, **{word: 1}), ("BadValue", word))

    def test_values_numbers_and_children_are_not_checked(self):
        child = layer(0, "solid", opacity=999)
        self.assertEqual(layer(-5, "solid", child, child, mode="odd"),
                         (-5, "solid", ("odd", 255, None, True, ""), ((0, 0, 0, 255),), (child, child)))

    def test_lists_and_dicts_that_are_passed_stay_and_have_no_later_effect(self):
        children = [layer(1, "solid"), layer(2, "solid")]
        fields = {"opacity": 5, "name": "a"}
        made = layer(0, "group", *children, **fields)
        before = (list(children), dict(fields), made)
        again = layer(0, "group", *children, **fields)
        self.assertEqual((children, fields, again), before)
        children.clear()
        fields["opacity"] = 6
        self.assertEqual(made, (0, "group", ("over", 5, None, True, "a"), (), (layer(1, "solid"), layer(2, "solid"))))


class FieldTest(unittest.TestCase):
    def test_every_field_is_read(self):
        for kind, values in DEFAULTS.items():
            made = layer(7, kind)
            for word, value in dict(HEAD_DEFAULTS, **values).items():
                self.assertEqual(field(made, word), value)

    def test_every_field_is_replaced(self):
        for kind, values in DEFAULTS.items():
            made = layer(7, kind, layer(1, "solid"), name="old")
            for word in dict(HEAD_DEFAULTS, **values):
                changed = with_field(made, word, "new")
                self.assertEqual(field(changed, word), "new")
                self.assertEqual(changed, layer(7, kind, layer(1, "solid"), **{"name": "old", word: "new"}))
            self.assertEqual(made, layer(7, kind, layer(1, "solid"), name="old"))

    def test_fields_of_other_kinds(self):
        for kind, values in DEFAULTS.items():
            for word in ({word for others in DEFAULTS.values() for word in others} - set(values)) | {"number", ""}:
                self.assertEqual(refusal(field, layer(7, kind), word), ("BadValue", word))
                self.assertEqual(refusal(with_field, layer(7, kind), word, 1), ("BadValue", word))


class WalkTest(unittest.TestCase):
    def test_the_order(self):
        self.assertEqual([held[0] for held in walk(family())], [1, 2, 3, 4, 5, 6, 3])
        self.assertEqual(list(walk(layer(4, "solid"))), [layer(4, "solid")])
        self.assertEqual(list(walk(family()))[1], family()[4][0])

    def test_it_is_a_generator(self):
        self.assertTrue(inspect.isgeneratorfunction(layers.walk))

    def test_the_first_layer_with_a_number(self):
        self.assertEqual(layer_of(family(), 1), family())
        self.assertEqual(layer_of(family(), 3), layer(3, "solid"))
        self.assertEqual(layer_of(family(), 6), layer(6, "pass"))

    def test_numbers_that_no_layer_has(self):
        for number in (0, 7, -1, 10 ** 60 - 1):
            self.assertEqual(refusal(layer_of, family(), number), ("NoLayer", number))


if __name__ == "__main__":
    unittest.main()
