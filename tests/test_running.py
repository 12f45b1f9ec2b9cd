"""Commands worked out: point 61."""

import unittest
from random import Random

import doing
import growing
import slow
from making import refusal
from test_commands import some_command

from easelwork.commands import parse
from easelwork.coverage import Coverage
from easelwork.deeds import do
from easelwork.documents import Document
from easelwork.edits import baked, fresh, turned_deed, unwrapped, wrapped
from easelwork.errors import EaselError
from easelwork.fills import alike, flood
from easelwork.layers import layer, layer_of
from easelwork.plain import whole
from easelwork.running import worked
from easelwork.strokes import painted_deed, stroke_cover

RED = (255, 0, 0, 255)
DOTS = ((0, 0, (9, 0, 0, 9)), (1, 0, (9, 0, 0, 9)), (3, 2, (0, 7, 0, 8)))


def canvas(chosen=None):
    """A canvas of 4 by 3 with a paint layer 1, an effect 2, a group 3 with a solid 4, and a placed layer 5."""
    return Document(4, 3, layer(
        0, "group", layer(1, "paint", spots=DOTS), layer(2, "blur"), layer(3, "group", layer(4, "solid", opacity=8)),
        layer(5, "placed")), chosen=chosen)


def work(line, document=None, names=None, scripts=None):
    return worked(document or canvas(), parse(line), names or {}, scripts or {})


def error(line, document=None, names=None, scripts=None):
    return refusal(work, line, document, names, scripts)


class TableTest(unittest.TestCase):
    def check(self, line, deed, document=None, names=None):
        document = document or canvas()
        deeds = deed[1] if deed[0] == "several" else (deed,)
        self.assertEqual(work(line, document, names), (deeds, do(document, deed)[0]))

    def test_deeds_that_read_like_their_commands(self):
        for line in ("drop 1", "shift 1 3 0", 'set 1 name "x"', "size 2 2"):
            self.check(line, parse(line))
        self.check("set 1 mask ((0,0,5),)", ("set", 1, "mask", ((0, 0, 5),)))

    def test_add(self):
        self.check("add rank 3 1", ("add", 3, 1, layer(fresh(canvas()), "rank")))

    def test_paint_and_erase(self):
        for document in (canvas(), canvas(((0, 0, 100), (1, 1, 255)))):
            cover = stroke_cover(((0, 0), (3, 2)), "round", 2, 2)
            self.check("paint 1 round 2 2 #0080ff80 0,0 3,2", painted_deed(document, 1, cover, (0, 128, 255, 128)), document)
            self.check("erase 1 round 2 2 90 0,0 3,2",
                       painted_deed(document, 1, cover, (0, 0, 0, 255), flow=90, mode="erase"), document)

    def test_fill(self):
        document = canvas()
        cover = flood(whole(document, 0), 0, 0, 20)
        self.check("fill 1 0,0 20 #ff0000ff", painted_deed(document, 1, cover, RED), document)

    def test_masks(self):
        for chosen in ((), ((0, 0, 9), (-5, 2, 7)), None):
            document = canvas(chosen)
            held = document if chosen is not None else do(document, ("set", 4, "mask", ()))[0]
            self.check("mask 4", ("set", 4, "mask", chosen), held)
        masked = do(canvas(), ("set", 3, "mask", ()))[0]
        self.check("unmask 3", ("set", 3, "mask", None), masked)
        self.assertEqual(error("mask 3"), ("NoChange",))

    def test_ready_made_deeds(self):
        document = canvas()
        self.check("bake 3", baked(document, 3))
        self.check("wrap 1", wrapped(document, 1))
        self.check("unwrap 3", unwrapped(document, 3))
        self.check("turn 5 0 -1 3 1 0 0 1", turned_deed(document, 5, (0, -1, 3, 1, 0, 0, 1)))

    def test_do(self):
        self.check('do ("drop",1)', ("drop", 1))
        self.check('do ("several",(("drop",1),("size",1,1)))', ("several", (("drop", 1), ("size", 1, 1))))
        for value in ("5", "()", "(1,)", "none", '"drop"', "((),)", "(none,1)", '(("drop",1),)'):
            self.assertEqual(error("do " + value), ("BadValue", "deed"))
        for value in ('("dropp",1)', '("drop",)', '("drop",1,2)', '("",)'):
            self.assertEqual(error("do " + value), ("BadValue", "deed"))

    def test_names_are_replaced(self):
        names = {"n": 1, "x": -1, "y": 2}
        cover = stroke_cover(((-1, 2), (2, 1)), "square", 1, 2)
        self.check("paint $n square 1 $y #ff0000ff $x,$y 2,1", painted_deed(canvas(), 1, cover, RED), None, names)
        self.check("turn 5 $n 0 $y 0 1 0 1", turned_deed(canvas(), 5, (1, 0, 2, 0, 1, 0, 1)), None, names)
        self.check("select to rect $n,$n $y,1", ("choose", ((1, 1, 255), (2, 1, 255))), None, names)
        self.check("adjust hardened $n", ("choose", ((0, 0, 255),)), canvas(((0, 0, 1),)), names)

    def test_values_are_never_searched(self):
        # The sign of a glyph may be the dollar sign.
        document = Document(1, 1, layer(0, "group", layer(1, "text")))
        for line in ('set 1 font (16,(("$",5,()),))', 'set 1 font (16,(("$",5,()),("a",0,())))'):
            self.assertEqual(work(line, document, {"n": 1})[0], (parse(line),))
        line = 'do ("set",1,"font",(16,(("$",5,()),)))'
        self.assertEqual(work(line, document, {"n": 1})[0], (("set", 1, "font", (16, (("$", 5, ()),))),))
        self.assertEqual(error('do ("$","n")', None, {"n": 1}), ("BadValue", "deed"))


class SelectTest(unittest.TestCase):
    def chosen(self, line, document):
        return work(line, document)[1].chosen

    def test_sources(self):
        document = canvas(())
        block = whole(document, 0)
        every = tuple((x, y, 255) for y in range(3) for x in range(4))
        self.assertEqual(self.chosen("select to all", document), every)
        for p, q in (("1,0", "2,9"), ("2,9", "1,0"), ("1,9", "2,0"), ("2,-999999", "1,999999")):
            self.assertEqual(self.chosen(f"select to rect {p} {q}", document),
                             tuple(spot for spot in every if spot[0] in (1, 2)))
        self.assertEqual(self.chosen("select to rect 3,2 3,2", document), ((3, 2, 255),))
        self.assertEqual(self.chosen("select to rect 4,0 9,9", canvas()), ())
        self.assertEqual(self.chosen("select to flood 0,0 30", document), flood(block, 0, 0, 30).spots)
        self.assertEqual(self.chosen("select to alike 3,2 1", document), alike(block, 3, 2, 1).spots)
        self.assertEqual(self.chosen("select to layer 1", document), ((0, 0, 9), (1, 0, 9), (3, 2, 8)))
        self.assertEqual(self.chosen("select to layer 4", document), every)

    def test_floods_and_all_that_is_alike(self):
        document = Document(3, 1, layer(0, "group", layer(1, "paint", spots=((1, 0, (9, 9, 9, 9)),))))
        self.assertEqual(self.chosen("select to flood 0,0 0", document), ((0, 0, 255),))
        self.assertEqual(self.chosen("select to alike 0,0 0", document), ((0, 0, 255), (2, 0, 255)))

    def test_layers_are_cut_to_the_canvas_and_their_heads_play_no_part(self):
        spots = ((-1, 0, (1, 1, 1, 1)), (0, 0, (2, 2, 2, 2)), (4, 0, (3, 3, 3, 3)))
        document = Document(4, 3, layer(0, "group", layer(1, "paint", spots=spots, shown=False, opacity=0)))
        self.assertEqual(self.chosen("select to layer 1", document), ((0, 0, 2),))
        self.assertEqual(self.chosen("select to layer 0", document), ())

    def test_joins(self):
        spots = ((-5, 0, 9), (0, 0, 100), (1, 0, 255), (2, 0, 3))
        for document, selection in ((canvas(spots), Coverage(spots)), (canvas(), Coverage.of_rect((0, 0, 4, 3), 255))):
            source = Coverage([(0, 0, 9), (1, 0, 9), (3, 2, 8)])
            for how, held in (("to", source), ("more", selection | source), ("only", selection & source),
                              ("less", selection - source)):
                if held.spots != document.chosen:
                    self.assertEqual(self.chosen(f"select {how} layer 1", document), held.spots)
        self.assertEqual(self.chosen("select less all", canvas(spots)), ((-5, 0, 9),))

    def test_everything_is_not_the_selection_of_all_places(self):
        every = tuple((x, y, 255) for y in range(3) for x in range(4))
        self.assertEqual(self.chosen("select more rect 0,0 0,0", canvas()), every)
        self.assertEqual(error("select more rect 0,0 0,0", canvas(every)), ("NoChange",))

    def test_errors(self):
        for word in ("flood", "alike"):
            for place in ("4,0", "-1,0", "0,3", "0,-1"):
                self.assertEqual(error(f"select to {word} {place} 256"), ("BadPlace",))
            for tolerance in (-1, 256):
                self.assertEqual(error(f"select to {word} 0,0 {tolerance}"), ("BadValue", "tolerance"))
        self.assertEqual(error("select to layer 9"), ("NoLayer", 9))
        self.assertEqual(error("select to layer 2"), ("BadPlace",))

    def test_a_selection_that_grows_too_large(self):
        spots = tuple((x, y, 1) for y in range(64, 128) for x in range(64))
        document = Document(64, 64, layer(0, "group"), chosen=spots)
        self.assertEqual(error("select more rect 0,0 0,0", document), ("BadValue", "chosen"))
        self.assertEqual(len(self.chosen("select to all", document)), 4096)


class AdjustTest(unittest.TestCase):
    def test_adjustments(self):
        spots = ((-1, 0, 50), (0, 0, 100), (3, 2, 255), (9, 9, 1))
        rect = (0, 0, 4, 3)
        for chosen in (spots, None, ()):
            document = canvas(chosen)
            cover = Coverage.of_rect(rect, 255) if chosen is None else Coverage(chosen)
            made = {"turned": cover.turned(rect)}
            for least in (1, 60, 255):
                made[f"hardened {least}"] = cover.hardened(least)
            for r in (0, 1, 2, 8):
                made[f"grown {r}"] = cover.grown(r, rect)
                made[f"shrunk {r}"] = cover.shrunk(r, rect)
                made[f"feathered {r}"] = cover.feathered(r, rect)
            for words, held in made.items():
                if held.spots == chosen:
                    self.assertEqual(error("adjust " + words, document), ("NoChange",))
                else:
                    self.assertEqual(work("adjust " + words, document)[0], (("choose", held.spots),))
            self.assertEqual(error("adjust none", document) is None, chosen is not None)
        self.assertEqual(work("adjust none", canvas(spots))[0], (("choose", None),))

    def test_hardened_keeps_places_beyond_the_canvas(self):
        self.assertEqual(work("adjust hardened 1", canvas(((-1, 0, 50),)))[1].chosen, ((-1, 0, 255),))
        self.assertEqual(work("adjust grown 1", canvas(((-1, 0, 50),)))[1].chosen, ())

    def test_errors(self):
        for word in ("grown", "shrunk", "feathered"):
            for r in (-1, 9, 999999):
                self.assertEqual(error(f"adjust {word} {r}"), ("BadValue", "radius"))
        for r in (0, -1, 256):
            self.assertEqual(error(f"adjust hardened {r}"), ("BadValue", "least"))


class ErrorOrderTest(unittest.TestCase):
    def test_coverages_come_before_painted_deeds_and_these_before_do(self):
        self.assertEqual(error("paint 9 round 0 0 #00000000 0,0"), ("BadValue", "points"))
        self.assertEqual(error("paint 9 round 0 1 #00000000 0,0"), ("BadValue", "brush"))
        self.assertEqual(error("paint 9 round 1 1 #00000000 0,0"), ("NoLayer", 9))
        self.assertEqual(error("paint 2 round 1 1 #00000000 0,0"), ("BadPlace",))
        self.assertEqual(error("erase 9 round 1 1 256 0,0"), ("NoLayer", 9))
        self.assertEqual(error("erase 2 round 1 1 256 0,0"), ("BadPlace",))
        self.assertEqual(error("erase 1 round 1 1 256 0,0"), ("BadValue", "flow"))
        self.assertEqual(error("erase 1 square 1 1 0 0,0"), ("NoChange",))
        self.assertEqual(error("paint 1 square 1 1 #00000000 0,0"), ("NoChange",))
        self.assertEqual(error("fill 9 4,0 256 #00000000"), ("BadPlace",))
        self.assertEqual(error("fill 9 0,0 256 #00000000"), ("BadValue", "tolerance"))
        self.assertEqual(error("fill 9 0,0 0 #00000000"), ("NoLayer", 9))

    def test_names_come_first_from_left_to_right(self):
        self.assertEqual(error("fill $a $b,$c $d #00000000"), ("NoName", "a"))
        self.assertEqual(error("fill 9 $b,$c $d #00000000"), ("NoName", "b"))
        self.assertEqual(error("fill 9 4,$c $d #00000000"), ("NoName", "c"))
        self.assertEqual(error("fill 9 4,9 $d #00000000"), ("NoName", "d"))
        self.assertEqual(error("turn 1 1 $q 2 $r 3 4 5"), ("NoName", "q"))
        self.assertEqual(error("repeat $a i {drop $b}"), ("NoName", "a"))
        self.assertEqual(error("set $n nothing 1"), ("NoName", "n"))

    def test_errors_of_deeds(self):
        self.assertEqual(error("drop 0"), ("BadPlace",))
        self.assertEqual(error("add paint 9 0"), ("NoLayer", 9))
        self.assertEqual(error("set 1 spots ()"), ("BadValue", "spots"))
        self.assertEqual(error("set 1 a1 ()"), ("BadValue", "a1"))
        self.assertEqual(error("turn 5 1 0 0 0 1 0 0"), ("BadValue", "matrix"))
        self.assertEqual(error("turn 5 0 0 0 0 0 0 1"), ("Singular",))
        self.assertEqual(error("turn 1 1 0 0 0 1 0 1"), ("BadPlace",))
        self.assertEqual(error("size 65 0"), ("BadValue", "wide"))
        full = Document(1, 1, layer(0, "group", layer(9999, "solid")))
        self.assertEqual(error("add paint 0 0", full), ("BadValue", "number"))

    def test_every_error_ends_the_work(self):
        document = canvas()
        self.assertEqual(error("{ drop 1 ; drop 1 ; drop 99 }", document), ("NoLayer", 1))
        self.assertEqual(error("{ drop 1 ; {size 1 1 ; drop $x} ; drop 99 }", document), ("NoName", "x"))
        self.assertEqual(document, canvas())


class BlockTest(unittest.TestCase):
    def test_commands_see_what_those_before_them_have_left(self):
        deeds, later = work("{ add paint 0 0 ; paint 6 square 1 1 #ff0000ff 0,0 ; drop 1 ; {wrap 6} }")
        self.assertEqual(deeds, (
            ("add", 0, 0, layer(6, "paint")), ("put", 6, ((0, 0, RED),)), ("drop", 1),
            ("add", 0, 0, layer(7, "group")), ("shift", 6, 7, 0)))
        self.assertEqual(layer_of(later.root, 7)[4][0][3], (((0, 0, RED),),))

    def test_repeats(self):
        deeds, _ = work("repeat 3 i { paint 1 square 1 1 #ff0000ff $i,2 }")
        self.assertEqual([deed[2][0][:2] for deed in deeds], [(0, 2), (1, 2), (2, 2)])
        document = canvas()
        self.assertEqual(work("repeat 0 i { drop 99 }", document), ((), document))
        for times in (-1, 61, 999999):
            self.assertEqual(error(f"repeat {times} i {{ drop 99 }}"), ("BadValue", "times"))

    def test_sixty_turns(self):
        paint = layer(1, "paint")
        document = Document(64, 1, layer(0, "group", paint))
        deeds, _ = work("repeat 60 i { paint 1 square 1 1 #ff0000ff $i,0 }", document)
        self.assertEqual(len(deeds), 60)
        self.assertEqual(error("{ repeat 60 i { paint 1 square 1 1 #ff0000ff $i,0 } ; size 1 1 }", document), ("TooDeep",))

    def test_names_of_turns_hide_others(self):
        names = {"i": 9, "j": 2}
        line = "{ repeat 2 i { repeat 2 j { paint 1 square 1 1 #ff0000ff $i,$j } ; paint 1 square 1 1 #00ff00ff $i,$j } ; drop $i }"
        deeds = worked_until(line, names)
        self.assertEqual([deed[2][0][:2] for deed in deeds[:-1]], [(0, 0), (0, 1), (0, 2), (1, 0), (1, 1), (1, 2)])
        self.assertEqual(deeds[-1], ("drop", 9))
        self.assertEqual(names, {"i": 9, "j": 2})

    def test_a_turn_hides_its_own_name_within(self):
        deeds, _ = work("repeat 2 i { repeat 2 i { paint 1 square 1 1 #ff0000ff $i,1 ; paint 1 square 1 1 #00ff00ff $i,1 } }")
        self.assertEqual([deed[2][0][0] for deed in deeds], [0, 0, 1, 1] * 2)


def worked_until(line, names):
    """The deeds of a line on a canvas that has a layer 9."""
    document = do(canvas(), ("add", 0, 0, layer(9, "solid")))[0]
    return work(line, document, names)[0]


class RunTest(unittest.TestCase):
    def scripts(self, **lines):
        return {name: parse("{" + line + "}")[1] for name, line in lines.items()}

    def test_a_run(self):
        scripts = self.scripts(a="drop 1 ; size 1 1", b="run a ; drop 2")
        self.assertEqual(work("run b", None, None, scripts)[0], (("drop", 1), ("size", 1, 1), ("drop", 2)))
        self.assertEqual(error("run c", None, None, scripts), ("NoName", "c"))

    def test_names_that_stand_where_the_run_is_begun(self):
        scripts = self.scripts(dot="paint 1 square 1 1 #ff0000ff $i,$k", line="repeat 2 i { run dot }")
        deeds, _ = work("{ repeat 2 k { run line } ; run dot }", None, {"i": 3, "k": 2}, scripts)
        self.assertEqual([deed[2][0][:2] for deed in deeds], [(0, 0), (1, 0), (0, 1), (1, 1), (3, 2)])
        self.assertEqual(error("{ repeat 2 k { drop 1 } ; run dot }", None, {"i": 3}, scripts), ("NoLayer", 1))
        self.assertEqual(error("run dot", None, {"i": 3}, scripts), ("NoName", "k"))

    def test_runs_within_one_another(self):
        scripts = self.scripts(a="run b", b="run c", c="run d", d="drop 1", e="run a", z="run nothing")
        self.assertEqual(work("run b", None, None, scripts)[0], (("drop", 1),))
        self.assertEqual(work("run a", None, None, scripts)[0], (("drop", 1),))
        self.assertEqual(error("run e", None, None, scripts), ("TooDeep",))
        self.assertEqual(error("{ run a ; run a }", None, None, scripts), ("NoLayer", 1))
        self.assertEqual(work("{ run d ; {{{ size 1 1 }}} }", None, None, scripts)[0][1], ("size", 1, 1))
        endless = self.scripts(a="run a")
        self.assertEqual(error("run a", None, None, endless), ("TooDeep",))
        deep = self.scripts(a="run b", b="run c", c="run d", d="run x")
        self.assertEqual(error("run a", None, None, deep), ("NoName", "x"))

    def test_the_dicts_stay_as_they_were(self):
        scripts = self.scripts(a="repeat 2 i { set 1 opacity 9 ; set 1 opacity 8 }")
        names = {"i": 4}
        work("run a", None, names, scripts)
        self.assertEqual((names, scripts), ({"i": 4}, self.scripts(a="repeat 2 i { set 1 opacity 9 ; set 1 opacity 8 }")))


class CountTest(unittest.TestCase):
    def test_sixty_and_sixty_one_deeds(self):
        many = "{" + ";".join(f"set 1 opacity {k}" for k in range(60)) + "}"
        self.assertEqual(len(work(many)[0]), 60)
        more = "{" + ";".join(f"set 1 opacity {k}" for k in range(61)) + "}"
        self.assertEqual(error(more), ("TooDeep",))
        inner = ",".join(f'("set",1,"opacity",{k})' for k in range(60))
        self.assertEqual(len(work(f'do ("several",({inner}))')[0]), 60)
        self.assertEqual(error(f'{{ size 1 1 ; do ("several",({inner})) }}'), ("TooDeep",))
        self.assertEqual(error(f'{{ do ("several",({inner})) ; wrap 1 }}'), ("TooDeep",))
        self.assertEqual(error(f'{{ do ("several",({inner})) ; drop 99 }}'), ("NoLayer", 99))

    def test_a_thousand_commands(self):
        # A block and 999 more; a repeat of 0 turns is one command.
        nothing = ";".join(["repeat 0 i { drop 1 }"] * 999)
        document = canvas()
        self.assertEqual(work("{" + nothing + "}", document), ((), document))
        self.assertEqual(error("{ drop 1 ; " + nothing + "}", document), ("TooDeep",))

    def test_commands_count_each_time_they_are_begun(self):
        # 1 + 60 * (1 + 15) = 961, and one block of 39 more: 1000 in all with the block around them.
        turns = "repeat 60 i { repeat 15 j { repeat 0 k { drop 1 } } }"
        self.assertEqual(work("{" + turns + ";" + ";".join(["repeat 0 k { drop 1 }"] * 38) + "}")[0], ())
        self.assertEqual(error("{" + turns + ";" + ";".join(["repeat 0 k { drop 1 }"] * 39) + "}"), ("TooDeep",))

    def test_the_count_comes_before_names_and_the_run_counts_too(self):
        scripts = {"a": (("repeat", 0, "i", (("drop", 1),)),) * 998}
        self.assertEqual(work("{ run a }", None, None, scripts)[0], ())
        self.assertEqual(error("{ run a ; drop $x }", None, None, scripts), ("TooDeep",))
        scripts = {"a": scripts["a"][1:]}
        self.assertEqual(error("{ run a ; drop $x }", None, None, scripts), ("NoName", "x"))


class ChanceTest(unittest.TestCase):
    def test_the_deeds_make_the_later_document(self):
        good = refused = 0
        for seed in range(1500):
            chance = Random(seed)
            document = growing.document(chance, deep=1)
            command = some_command(chance, 2)
            names = {name: chance.randint(0, 4) for name in ("a", "i9", "abcdefghijklmnop", "drop", "none")}
            scripts = {"a": (some_command(chance, 0),), "drop": (some_command(chance, 1), ("run", "a"))}
            try:
                deeds, later = worked(document, command, names, scripts)
            except (EaselError, TypeError, IndexError, ValueError, AttributeError):
                refused += 1
                continue
            good += 1
            made = document
            for deed in deeds:
                self.assertNotEqual(deed[0], "several")
                made = do(made, deed)[0]
            self.assertEqual(made, later)
        self.assertGreater(min(good, refused), 100)

    def test_masks_and_baked_layers_on_many_documents(self):
        for seed in range(60):
            chance = Random(seed)
            document = growing.document(chance, deep=1)
            painted = [tree for tree in document.root[4] if tree[1] not in slow.EFFECTS]
            for tree in painted:
                if refusal(work, f"select to layer {tree[0]}", document) is None:
                    later = work(f"select to layer {tree[0]}", document)[1]
                    plane = slow.plane(tree)
                    self.assertEqual(later.chosen, tuple(
                        (x, y, plane.at(x, y)[3]) for y in range(document.high) for x in range(document.wide)
                        if plane.at(x, y)[3]))
            self.assertTrue(doing.made_deed(chance, document, "size"))


if __name__ == "__main__":
    unittest.main()
