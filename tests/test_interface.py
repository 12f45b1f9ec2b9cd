"""The interface: its names, their arguments, and the files and classes in which they are defined."""

import importlib
import inspect
import unittest

FUNCTIONS = {
    "arith": ("near(n)", "mul(x, y)", "mix(d, f, k)", "hold(v, low, high)", "straight(c, a)", "mean(total, count)"),
    "pixels": ("is_pixel(thing)", "scale(pixel, k)", "ink(color)", "mixed(d, f, k)", "capped(pixel, a)"),
    "modes": ("blend(mode, s, d)", "kept(mode, s, d)"),
    "rects": ("overlap(a, b)", "around(rects)", "around_places(places)", "widened(rect, left, up, right, down)",
              "holds(rect, x, y)", "cut(block, rect, part)"),
    "notation": ("write_value(value)", "read_value(text)", "read_prefix(text, at)"),
    "sealed": ("seal(old, body)", "unsealed(block)"),
    "tones": ("adjusted(pixel, red, green, blue)",),
    "kernels": ("convolved(block, weights, divisor)", "blurred(block, radius, times)",
                "ranked(block, across, down, which)"),
    "taps": ("taps(matrix, manner, x, y)", "tapped(pixels_and_weights)", "look(matrix, manner, region)",
             "back(matrix, manner, region)"),
    "outlines": ("chords(outline)", "winding(polygons, x, y)", "covered(polygons, unit, rule, x, y)",
                 "bounds_of(polygons, unit)", "sample_alpha(n)"),
    "texts": ("lines(font, words, scale, room)", "glyph_places(font, words, scale, room, gap, side)",
              "text_polygons(font, scale, place, words, room, gap, side)"),
    "ramps": ("ramp_pixel(manner, start, finish, first, second, x, y)",),
    "layers": ("layer(number, kind, *children, **fields)", "field(tree, name)", "with_field(tree, name, value)",
               "walk(tree)", "layer_of(tree, number)"),
    "levels": ("half(block)", "level_size(wide, high, level)", "last_level(wide, high)", "level_of(block, level)"),
    "plain": ("plane_at(document, number, x, y)", "whole(document, level)"),
    "needs": ("needs(tree, region)", "reach(tree, region)"),
    "boxes": ("box(tree)", "span(tree)"),
    "pieces": ("piece(tree, rect)",),
    "differ": ("pairs(olds, news)", "differ(old, new)", "between(olds, news, region)", "picture_differ(old, new)"),
    "deeds": ("do(document, deed)",),
    "strokes": ("brush(manner, side)", "dab_places(points, gap)", "stroke_cover(points, manner, side, gap)",
                "selected(document, x, y)",
                "painted_deed(document, number, cover, color, *, flow=255, mode='over')"),
    "fills": ("flood(block, x, y, tolerance)", "alike(block, x, y, tolerance)"),
    "edits": ("fresh(document)", "baked(document, number)", "wrapped(document, number)",
              "unwrapped(document, number)", "turned_deed(document, number, seven)"),
}
CLASSES = {
    ("regions", "Region"): (
        "of(rects)", "empty()", "everything()", "grown(left, up, right, down)", "moved(dx, dy)", "halved()",
        "doubled()", "meets(rect)", "box()", "rects()", "places()",
    ),
    ("coverage", "Coverage"): (
        "of_rect(rect, k)", "of_alpha(block, x0, y0)", "at(x, y)", "box()", "turned(rect)", "grown(radius, rect)",
        "shrunk(radius, rect)", "feathered(radius, rect)", "hardened(least)",
    ),
    ("disk", "Disk"): ("read(at)", "write(at, block)", "sync()", "blocks()", "twin()", "cut(done, fates)"),
    ("tones", "Curve"): (
        "__call__(v)", "identity()", "inverted()", "levels(black, white, low, high)", "threshold(n)",
    ),
    ("matrices", "Matrix"): ("parts()", "point(x, y)", "inverse()"),
    ("documents", "Document"): ("layer(number)", "numbers()", "holder(number)", "pack()"),
}
BUILT = {
    ("coverage", "Coverage"): "(spots)",
    ("disk", "Disk"): "(count, width)",
    ("tones", "Curve"): "(points)",
    ("matrices", "Matrix"): "(a, b, c, d, e, f, n)",
    ("documents", "Document"): "(wide, high, root, *, chosen=None)",
}
OPERATORS = {
    ("regions", "Region"): ("__or__", "__and__", "__sub__", "__eq__", "__contains__", "__bool__"),
    ("coverage", "Coverage"): ("__or__", "__and__", "__sub__", "__eq__", "__bool__"),
    ("tones", "Curve"): ("__eq__",),
    ("matrices", "Matrix"): ("__mul__", "__eq__"),
    ("documents", "Document"): ("__eq__",),
}


def module(name):
    return importlib.import_module("easelwork." + name)


def written(name, thing):
    return name + str(inspect.signature(thing))


class InterfaceTest(unittest.TestCase):
    def test_functions(self):
        for name, calls in FUNCTIONS.items():
            for call in calls:
                word = call.partition("(")[0]
                thing = getattr(module(name), word)
                self.assertEqual(written(word, thing), call)
                self.assertEqual(thing.__module__, "easelwork." + name)

    def test_methods_stand_in_the_class_itself(self):
        for (name, word), calls in CLASSES.items():
            kind = getattr(module(name), word)
            self.assertEqual(kind.__module__, "easelwork." + name)
            for call in calls:
                method = call.partition("(")[0]
                self.assertIn(method, vars(kind))
                held = written(method, getattr(kind, method)).replace("(self, ", "(").replace("(self)", "()")
                self.assertEqual(held, call)
            for method in OPERATORS.get((name, word), ()):
                self.assertIn(method, vars(kind))

    def test_how_objects_are_made(self):
        for (name, word), arguments in BUILT.items():
            self.assertEqual(str(inspect.signature(getattr(module(name), word))), arguments)


if __name__ == "__main__":
    unittest.main()
