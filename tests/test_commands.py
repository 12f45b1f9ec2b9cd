"""Lines and commands: points 59 and 60."""

import unittest
from random import Random

import slow_lines
from making import refusal

from easelwork.commands import parse
from easelwork.layers import KINDS
from easelwork.printing import printed

# A line of each form, with its command.
GOOD = (
    ("add paint 0 1", ("add", "paint", 0, 1)),
    ("drop 7", ("drop", 7)), ("bake -7", ("bake", -7)), ("wrap $n", ("wrap", ("$", "n"))), ("unwrap 0", ("unwrap", 0)),
    ("mask 999999", ("mask", 999999)), ("unmask -999999", ("unmask", -999999)),
    ("shift 1 2 3", ("shift", 1, 2, 3)),
    ('set 1 name "a b;{}"', ("set", 1, "name", "a b;{}")), ("set $a1 shown true", ("set", ("$", "a1"), "shown", True)),
    ("set 1 mask none", ("set", 1, "mask", None)), ("set 1 color (1,2,3,4)", ("set", 1, "color", (1, 2, 3, 4))),
    ("set 1 opacity -1234567", ("set", 1, "opacity", -1234567)),
    ("paint 1 round 3 2 #ff000080 1,2", ("paint", 1, "round", 3, 2, (255, 0, 0, 128), ((1, 2),))),
    ("paint 1 square 3 2 #0a0b0c0d 1,2 -3,$y $x,0",
     ("paint", 1, "square", 3, 2, (10, 11, 12, 13), ((1, 2), (-3, ("$", "y")), (("$", "x"), 0)))),
    ("erase 1 square 3 2 255 0,0 0,0", ("erase", 1, "square", 3, 2, 255, ((0, 0), (0, 0)))),
    ("fill 1 0,0 9 #00000000", ("fill", 1, (0, 0), 9, (0, 0, 0, 0))),
    ("select to all", ("select", "to", ("all",))),
    ("select more rect 0,0 $x,-1", ("select", "more", ("rect", (0, 0), (("$", "x"), -1)))),
    ("select only flood 1,1 0", ("select", "only", ("flood", (1, 1), 0))),
    ("select less alike 1,1 $t", ("select", "less", ("alike", (1, 1), ("$", "t")))),
    ("select to layer 3", ("select", "to", ("layer", 3))),
    ("adjust none", ("adjust", "none")), ("adjust turned", ("adjust", "turned")),
    ("adjust grown 1", ("adjust", "grown", 1)), ("adjust shrunk $r", ("adjust", "shrunk", ("$", "r"))),
    ("adjust feathered 8", ("adjust", "feathered", 8)), ("adjust hardened 255", ("adjust", "hardened", 255)),
    ("size 1 64", ("size", 1, 64)),
    ("turn 1 1 0 -3 0 1 $k 2", ("turn", 1, (1, 0, -3, 0, 1, ("$", "k"), 2))),
    ('do ("drop",7)', ("do", ("drop", 7))), ("do 12", ("do", 12)), ('do "x"', ("do", "x")), ("do ()", ("do", ())),
    ("{ drop 1 }", ("block", (("drop", 1),))),
    ("{ drop 1 ; { run a } ; drop 2 }", ("block", (("drop", 1), ("block", (("run", "a"),)), ("drop", 2)))),
    ("repeat 3 i { drop $i }", ("repeat", 3, "i", (("drop", ("$", "i")),))),
    ("repeat $n drop { run drop }", ("repeat", ("$", "n"), "drop", (("run", "drop"),))),
    ("run abcdefghijklmnop", ("run", "abcdefghijklmnop")),
    ("undo", ("undo",)), ("redo", ("redo",)), ("go 3", ("go", 3)), ('go "a"', ("go", "a")), ("go $s", ("go", ("$", "s"))),
    ('mark "a b"', ("mark", "a b")), ('unmark ""', ("unmark", "")), ("pen 7", ("pen", 7)),
    ("let undo 3", ("let", "undo", 3)), ("let a $b", ("let", "a", ("$", "b"))),
    ("script s { drop 1 ; run s }", ("script", "s", (("drop", 1), ("run", "s")))),
)
# Tokens that are put in place of others.
STRANGE = ("", "0", "-0", "00", "07", "5", "-5", "123456", "1234567", "-1234567", "$", "$a", "$A", "$1", "$a-", "1,2",
           "1,", ",1", "1,2,3", "1,-0", "$a,$b", "a", "abc9", "9a", "A", "a_b", "abcdefghijklmnop", "abcdefghijklmnopq",
           "#00000000", "#0000000", "#000000000", "#ABCDEF00", "#0000000g", "square", "round", "paint", "rank", "to",
           "less", "all", "rect", "none", "turned", "grown", "drop", "undo", "script", "block", "{", "}", ";", '"a"',
           '"', '"a', '"a"b', '"a\\"', "()", "(1)", "(1,)", "(1,)2", "(1,) (2,)", "true", "truex", "tru", "+5", "1.5",
           "-", "5x", "x;", "{}", "drop 1", '"a";', "(1,)}", "z", "a0z9", "a`", "`a", "a/", "a:", "#g0000000", "#0000000X",
           "$z9", "$a:", "1/2")


def column(line):
    """The column of BadLine, or None."""
    error = refusal(parse, line)
    return error and error[1]


class FormsTest(unittest.TestCase):
    def test_each_form(self):
        for line, command in GOOD:
            self.assertEqual(parse(line), command)
        for kind in KINDS:
            self.assertEqual(parse(f"add {kind} 0 0"), ("add", kind, 0, 0))

    def test_true_and_false_are_no_numbers_here(self):
        for line, kind in (("set 1 a 1", int), ("set 1 a true", bool)):
            self.assertIs(type(parse(line)[3]), kind)

    def test_spaces(self):
        self.assertEqual(parse("   drop    1  "), ("drop", 1))
        self.assertEqual(parse("{drop 1;drop 2}"), parse("  {  drop 1  ;  drop 2  }  "))
        self.assertEqual(parse("repeat 2 i{drop 1}"), ("repeat", 2, "i", (("drop", 1),)))
        self.assertEqual(parse('{set 1 name "a";do (1,)}'), ("block", (("set", 1, "name", "a"), ("do", (1,)))))

    def test_braces_nest_four_deep(self):
        for depth in range(1, 7):
            line = "{" * depth + "drop 1" + "}" * depth
            self.assertEqual(column(line), None if depth <= 4 else 5)
        self.assertEqual(column("script s {{{{drop 1}}}}"), None)
        self.assertEqual(column("script s {{{{{drop 1}}}}}"), 14)
        self.assertEqual(column("{{{repeat 1 i{drop 1}}}}"), None)
        self.assertEqual(column("{{{{repeat 1 i{drop 1}}}}}"), 15)
        self.assertEqual(column("{{{{drop 1};{drop 2}};{{drop 3}}}}"), None)
        self.assertEqual(column("{drop 1;{{{drop 2}}}}"), None)
        self.assertEqual(column("{drop 1;{{{{drop 2}}}}}"), 12)

    def test_desk_commands_do_not_stand_in_braces(self):
        for line, _ in GOOD:
            word = line.split()[0]
            held = column("{ drop 1 ; " + line + " }")
            self.assertEqual(held, 12 if word in ("undo", "redo", "go", "mark", "unmark", "pen", "let", "script") else None)


class ColumnTest(unittest.TestCase):
    def test_columns(self):
        for line, held in (
                ("", 1), ("   ", 4), ("drop", 5), ("drop ", 6), ("drop 1 2", 8), ("drop x", 6), ("  undo x", 8),
                ("shift 3  -0 x", 10), ("Drop 1", 1), ("drop1", 1), ("{", 2), ("{}", 2), ("{drop 1", 8), ("{drop 1;", 9),
                ("{drop 1;}", 9), ("{drop 1}}", 9), ("{drop 1};", 9), ("drop 1;", 7), ("drop 1}", 7), (";", 1),
                ("mark a", 6), ("mark (1,)", 6), ("go (1,)", 4), ('go "a"b', 4), ('mark "a', 6), ('mark "a"x 1', 6),
                ('mark "a" x', 10), ("do (1,)(2,)", 4), ("do (1", 4), ("do", 3), ("do 01", 4), ("do 1\"a\"", 4),
                ('drop "a', 6), ('drop 1 "a', 8), ("paint 1 round 1 1 #00000000", 28), ("paint 1 round 1 1 #00000000 ", 29),
                ("paint 1 round 1 1 #00000000 0,0 x", 33), ("{paint 1 round 1 1 #00000000 ;", 30),
                ("select to", 10), ("select all", 8), ("select to none", 11), ("adjust all", 8), ("adjust none 1", 13),
                ("turn 1 1 2 3 4 5 6", 19), ("turn 1 1 2 3 4 5 6 7 8", 22), ("repeat 1 i drop 1", 12),
                ("repeat 1 2 {drop 1}", 10), ("let 1 1", 5), ("run a b", 7), ("run $a", 5), ("pen pen", 5),
        ):
            self.assertEqual(column(line), held, line)

    def test_names_of_16_and_17_characters(self):
        for many, held in ((16, None), (17, 5)):
            self.assertEqual(column("run " + "a" * many), held)
            self.assertEqual(column("let " + "a" * many + " 1"), held)
            self.assertEqual(column("pen $" + "a" * many), held)
            self.assertEqual(column("repeat 1 " + "a" * many + " {drop 1}"), held and 10)

    def test_long_lines(self):
        self.assertEqual(parse("drop 1".ljust(100000)), ("drop", 1))
        self.assertEqual(column("drop 1".ljust(100001)), 100001)
        self.assertEqual(column("Drop 1".ljust(100000)), 1)
        self.assertEqual(column("Drop 1".ljust(100001)), 100001)
        self.assertEqual(column("drop".ljust(100000)), 100001)
        self.assertEqual(column("(" * 100001), 100001)
        self.assertEqual(column("(" * 100000), 1)
        self.assertEqual(column("{" * 100000), 5)
        many = "{" + "drop 1;" * 14280 + "drop 1}"
        self.assertEqual(len(parse(many)[1]), 14281)

    def test_values_are_nested_at_most_40_deep(self):
        for depth, held in ((40, None), (41, 4)):
            self.assertEqual(column("do " + "(" * (depth - 1) + "()" + ",)" * (depth - 1)), held)

    def test_each_token_exchanged(self):
        for line, _ in GOOD:
            tokens = [line[at - 1:at - 1 + len(text)] for at, text in slow_lines.cut(line)]
            for at in range(len(tokens) + 1):
                for strange in STRANGE:
                    for made in (tokens[:at] + [strange] + tokens[at + 1:], tokens[:at] + [strange] + tokens[at:]):
                        for text in (" ".join(made), "".join(made)):
                            self.assertEqual(column(text), slow_lines.bad_column(text), text)

    def test_tokens_taken_away(self):
        for line, _ in GOOD:
            for end in range(len(line)):
                self.assertEqual(column(line[:end]), slow_lines.bad_column(line[:end]), line[:end])
                made = line[:end] + line[end + 1:]
                self.assertEqual(column(made), slow_lines.bad_column(made), made)

    def test_lines_of_chance(self):
        chance = Random(1)
        good = [line for line, _ in GOOD]
        for _ in range(3000):
            pieces = [chance.choice(good + list(STRANGE) + ["{", "}", ";", " "] * 8) for _ in range(chance.randint(1, 7))]
            line = chance.choice((" ", "", ";")).join(pieces)
            self.assertEqual(column(line), slow_lines.bad_column(line), line)


class PrintedTest(unittest.TestCase):
    def test_lines(self):
        for line, command in GOOD:
            if "  " not in line:
                self.assertEqual(printed(command), line)
        self.assertEqual(printed(parse('{drop 1;set $n name "a b"}')), '{ drop 1 ; set $n name "a b" }')
        self.assertEqual(printed(("do", ("a\\", (), True, None, -5))), 'do ("a\\\\",(),true,none,-5)')

    def test_what_is_printed_is_read_again(self):
        for seed in range(400):
            command = some_command(Random(seed), 4, True)
            self.assertEqual(parse(printed(command)), command)
            self.assertNotIn("  ", printed(command).replace('"a  b"', "_"))


def some_command(chance, deep, desk=False):
    """A command that parse can return."""
    words = ["add", "drop", "shift", "set", "paint", "erase", "fill", "select", "adjust", "size", "turn", "do", "run"]
    words += ["block", "repeat"] * 3 if deep > 0 else []
    words += ["undo", "go", "mark", "pen", "let", "script"] if desk else []
    word = chance.choice(words)

    def num():
        return chance.choice((0, 1, -1, 999999, -999999, chance.randint(-99, 99), ("$", name())))

    def name():
        return chance.choice(("a", "i9", "abcdefghijklmnop", "drop", "none"))

    def place():
        return (num(), num())

    def color():
        return tuple(chance.choice((0, 9, 10, 255, chance.randint(0, 255))) for _ in range(4))

    def value():
        return chance.choice((0, True, None, "", 'x"\\', "a  b", "{;}", (), (1,), ("a", (None, -7), False), 10 ** 29))

    def places():
        return tuple(place() for _ in range(chance.randint(1, 3)))

    def commands():
        return tuple(some_command(chance, deep - 1) for _ in range(chance.randint(1, 3)))
    brush = chance.choice(("round", "square"))
    source = chance.choice((("all",), ("rect", place(), place()), ("flood", place(), num()), ("alike", place(), num()),
                            ("layer", num())))
    made = {
        "add": lambda: (chance.choice(KINDS), num(), num()), "drop": lambda: (num(),), "shift": lambda: (num(), num(), num()),
        "set": lambda: (num(), name(), value()), "paint": lambda: (num(), brush, num(), num(), color(), places()),
        "erase": lambda: (num(), brush, num(), num(), num(), places()), "fill": lambda: (num(), place(), num(), color()),
        "select": lambda: (chance.choice(("to", "more", "only", "less")), source),
        "adjust": lambda: chance.choice((("none",), ("turned",), ("grown", num()), ("hardened", num()))),
        "size": lambda: (num(), num()), "turn": lambda: (num(), tuple(num() for _ in range(7))), "do": lambda: (value(),),
        "run": lambda: (name(),), "block": lambda: (commands(),), "repeat": lambda: (num(), name(), commands()),
        "undo": lambda: (), "go": lambda: (chance.choice((num(), "x", "")),), "mark": lambda: ("x y",), "pen": lambda: (num(),),
        "let": lambda: (name(), num()), "script": lambda: (name(), commands()),
    }
    return (word,) + made[word]()


if __name__ == "__main__":
    unittest.main()
