"""The forms of commands: which arguments stand behind which word.

The words in capitals are kinds of arguments. PLACES is one PLACE or more, SEVEN are seven NUM, TARGET is a NUM or a
TEXT, COMMANDS are commands in braces, SOURCE and CHANGE are forms of their own groups.
"""

# From the pair of a group and a word to the kinds of the arguments. Desk forms stand at the beginning of a line only.
FORMS = {
    ("COMMAND", "add"): ("KIND", "NUM", "NUM"),
    ("COMMAND", "drop"): ("NUM",),
    ("COMMAND", "bake"): ("NUM",),
    ("COMMAND", "wrap"): ("NUM",),
    ("COMMAND", "unwrap"): ("NUM",),
    ("COMMAND", "mask"): ("NUM",),
    ("COMMAND", "unmask"): ("NUM",),
    ("COMMAND", "shift"): ("NUM", "NUM", "NUM"),
    ("COMMAND", "set"): ("NUM", "NAME", "VALUE"),
    ("COMMAND", "paint"): ("NUM", "BRUSH", "NUM", "NUM", "COLOR", "PLACES"),
    ("COMMAND", "erase"): ("NUM", "BRUSH", "NUM", "NUM", "NUM", "PLACES"),
    ("COMMAND", "fill"): ("NUM", "PLACE", "NUM", "COLOR"),
    ("COMMAND", "select"): ("HOW", "SOURCE"),
    ("COMMAND", "adjust"): ("CHANGE",),
    ("COMMAND", "size"): ("NUM", "NUM"),
    ("COMMAND", "turn"): ("NUM", "SEVEN"),
    ("COMMAND", "do"): ("VALUE",),
    ("COMMAND", "repeat"): ("NUM", "NAME", "COMMANDS"),
    ("COMMAND", "run"): ("NAME",),
    ("DESK", "undo"): (),
    ("DESK", "redo"): (),
    ("DESK", "go"): ("TARGET",),
    ("DESK", "mark"): ("TEXT",),
    ("DESK", "unmark"): ("TEXT",),
    ("DESK", "pen"): ("NUM",),
    ("DESK", "let"): ("NAME", "NUM"),
    ("DESK", "script"): ("NAME", "COMMANDS"),
    ("SOURCE", "all"): (),
    ("SOURCE", "rect"): ("PLACE", "PLACE"),
    ("SOURCE", "flood"): ("PLACE", "NUM"),
    ("SOURCE", "alike"): ("PLACE", "NUM"),
    ("SOURCE", "layer"): ("NUM",),
    ("CHANGE", "none"): (),
    ("CHANGE", "turned"): (),
    ("CHANGE", "grown"): ("NUM",),
    ("CHANGE", "shrunk"): ("NUM",),
    ("CHANGE", "feathered"): ("NUM",),
    ("CHANGE", "hardened"): ("NUM",),
}


def form_of(group, word):
    """The kinds of the arguments behind the word, or None if the group has no such form."""
    return FORMS.get((group, word))


def group_of(word):
    """Where the form of a command with this word stands."""
    return "DESK" if ("DESK", word) in FORMS else "COMMAND"
