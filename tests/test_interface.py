"""The interface: its names, their arguments, and the files and classes in which they are defined."""

import importlib
import inspect
import unittest

FUNCTIONS = {
    "arith": ("near(n)", "mul(x, y)", "mix(d, f, k)", "hold(v, low, high)", "straight(c, a)", "mean(total, count)"),
    "pixels": ("is_pixel(thing)", "scale(pixel, k)", "ink(color)", "mixed(d, f, k)", "capped(pixel, a)"),
    "modes": ("blend(mode, s, d)", "kept(mode, s, d)"),
    "rects": ("overlap(a, b)", "around(rects)", "around_places(places)", "widened(rect, left, up, right, down)",
              "holds(rect, x, y)", "cut(block, rect, part)"),
    "notation": ("write_value(value)", "read_value(text)", "read_prefix(text, at)"),
    "sealed": ("seal(old, body)", "unsealed(block)"),
    "tones": ("adjusted(pixel, red, green, blue)",),
    "kernels": ("convolved(block, weights, divisor)", "blurred(block, radius, times)",
                "ranked(block, across, down, which)"),
    "taps": ("taps(matrix, manner, x, y)", "tapped(pixels_and_weights)", "look(matrix, manner, region)",
             "back(matrix, manner, region)"),
    "outlines": ("chords(outline)", "winding(polygons, x, y)", "covered(polygons, unit, rule, x, y)",
                 "bounds_of(polygons, unit)", "sample_alpha(n)"),
    "texts": ("lines(font, words, scale, room)", "glyph_places(font, words, scale, room, gap, side)",
              "text_polygons(font, scale, place, words, room, gap, side)"),
    "ramps": ("ramp_pixel(manner, start, finish, first, second, x, y)",),
    "layers": ("layer(number, kind, *children, **fields)", "field(tree, name)", "with_field(tree, name, value)",
               "walk(tree)", "layer_of(tree, number)"),
    "levels": ("half(block)", "level_size(wide, high, level)", "last_level(wide, high)", "level_of(block, level)"),
    "plain": ("plane_at(document, number, x, y)", "whole(document, level)"),
    "needs": ("needs(tree, region)", "reach(tree, region)"),
    "boxes": ("box(tree)", "span(tree)"),
    "pieces": ("piece(tree, rect)",),
    "differ": ("pairs(olds, news)", "differ(old, new)", "between(olds, news, region)", "picture_differ(old, new)"),
    "deeds": ("do(document, deed)",),
    "strokes": ("brush(manner, side)", "dab_places(points, gap)", "stroke_cover(points, manner, side, gap)",
                "selected(document, x, y)",
                "painted_deed(document, number, cover, color, *, flow=255, mode='over')"),
    "fills": ("flood(block, x, y, tolerance)", "alike(block, x, y, tolerance)"),
    "edits": ("fresh(document)", "baked(document, number)", "wrapped(document, number)",
              "unwrapped(document, number)", "turned_deed(document, number, seven)"),
    "stamps": ("dirty(history, state, number)", "tile_rect(document, number, level, side, i, j)",
               "stamp(history, state, number, level, side, i, j)"),
    "views": ("check_view(view)", "view_level(wide, high, view)", "source(view, level, a, b)",
              "shown(document, view)"),
    "chunks": ("chunks(history)", "from_chunks(table)"),
    "store": ("header(disk)", "directory(disk)", "stored(disk)", "uses(disk)", "plan_save(disk, table)"),
    "journal": ("bodies(record, generation, session, position, width)", "record_texts(disk)"),
    "files": ("read_disk(disk)", "format_disk(disk, history, log)"),
    "commands": ("parse(line)",),
    "printing": ("printed(command)",),
    "running": ("worked(document, command, names, scripts)",),
    "blame": ("blame(history, x, y)",),
    "exports": ("write_block(block)", "header_line(wide, high)", "row_line(row)", "read_block(text)",
                "road_lines(history, state)"),
}
CLASSES = {
    ("regions", "Region"): (
        "of(rects)", "empty()", "everything()", "grown(left, up, right, down)", "moved(dx, dy)", "halved()",
        "doubled()", "meets(rect)", "box()", "rects()", "places()",
    ),
    ("coverage", "Coverage"): (
        "of_rect(rect, k)", "of_alpha(block, x0, y0)", "at(x, y)", "box()", "turned(rect)", "grown(radius, rect)",
        "shrunk(radius, rect)", "feathered(radius, rect)", "hardened(least)",
    ),
    ("disk", "Disk"): ("read(at)", "write(at, block)", "sync()", "blocks()", "twin()", "cut(done, fates)"),
    ("tones", "Curve"): (
        "__call__(v)", "identity()", "inverted()", "levels(black, white, low, high)", "threshold(n)",
    ),
    ("matrices", "Matrix"): ("parts()", "point(x, y)", "inverse()"),
    ("documents", "Document"): ("layer(number)", "numbers()", "holder(number)", "pack()"),
    ("history", "History"): (
        "act(deed, *, pen=0)", "undo()", "redo()", "go(target)", "mark(word)", "unmark(word)", "names()",
        "perform(entry)", "document_at(state)", "plain(state)", "road(state)", "children(state)", "following(state)",
        "way(a, b)", "pack()", "rebuilt(pack)",
    ),
    ("kept", "Kept"): ("ask(history, state, number, level, i, j)", "throw_out(count)", "change_room(room)"),
    ("windows", "Window"): ("refresh()", "scroll(dx, dy)", "turn_to(view)"),
    ("files", "File"): ("attach(disk)", "note(history, entries)", "save(history)"),
    ("desk", "Desk"): (
        "line(text)", "undo()", "redo()", "go(target)", "mark(word)", "unmark(word)", "window(view)", "window_at(n)",
        "shut(n)", "refresh_all()", "ask(number, level, i, j)", "blame(x, y)", "found(disk, log)", "note()", "save()",
        "reopened(disk, *, side=8, room=40)",
    ),
}
PROPERTIES = {
    ("history", "History"): ("document",),
    ("kept", "Kept"): ("room", "painted"),
    ("windows", "Window"): ("image",),
    ("desk", "Desk"): ("document",),
}
BUILT = {
    ("coverage", "Coverage"): "(spots)",
    ("disk", "Disk"): "(count, width)",
    ("tones", "Curve"): "(points)",
    ("matrices", "Matrix"): "(a, b, c, d, e, f, n)",
    ("documents", "Document"): "(wide, high, root, *, chosen=None)",
    ("history", "History"): "(document)",
    ("kept", "Kept"): "(side, *, room=40)",
    ("windows", "Window"): "(history, kept, view)",
    ("desk", "Desk"): "(document, *, side=8, room=40)",
}
OPERATORS = {
    ("regions", "Region"): ("__or__", "__and__", "__sub__", "__eq__", "__contains__", "__bool__"),
    ("coverage", "Coverage"): ("__or__", "__and__", "__sub__", "__eq__", "__bool__"),
    ("tones", "Curve"): ("__eq__",),
    ("matrices", "Matrix"): ("__mul__", "__eq__"),
    ("documents", "Document"): ("__eq__",),
    ("history", "History"): ("__len__", "__iter__"),
    ("kept", "Kept"): ("__len__", "__iter__"),
}


def module(name):
    return importlib.import_module("easelwork." + name)


def written(name, thing):
    return name + str(inspect.signature(thing))


class InterfaceTest(unittest.TestCase):
    def test_functions(self):
        for name, calls in FUNCTIONS.items():
            for call in calls:
                word = call.partition("(")[0]
                thing = getattr(module(name), word)
                self.assertEqual(written(word, thing), call)
                self.assertEqual(thing.__module__, "easelwork." + name)

    def test_methods_stand_in_the_class_itself(self):
        for (name, word), calls in CLASSES.items():
            kind = getattr(module(name), word)
            self.assertEqual(kind.__module__, "easelwork." + name)
            for call in calls:
                method = call.partition("(")[0]
                self.assertIn(method, vars(kind))
                held = written(method, getattr(kind, method)).replace("(self, ", "(").replace("(self)", "()")
                self.assertEqual(held, call)
            for method in OPERATORS.get((name, word), ()):
                self.assertIn(method, vars(kind))

    def test_properties_stand_in_the_class_itself(self):
        for (name, word), held in PROPERTIES.items():
            for method in held:
                self.assertIsInstance(vars(getattr(module(name), word))[method], property)

    def test_how_objects_are_made(self):
        for (name, word), arguments in BUILT.items():
            self.assertEqual(str(inspect.signature(getattr(module(name), word))), arguments)


if __name__ == "__main__":
    unittest.main()
