"""The account of points 59 and 60, word by word: how a line is cut, and which token of it fits nowhere first."""

import re

from easelwork.errors import BadText
from easelwork.layers import KINDS
from easelwork.notation import read_value

NAME = r"[a-z][a-z0-9]{0,15}"
NUM = r"(?:0|-?[1-9][0-9]{0,5}|\$" + NAME + ")"
TOKENS = {
    "NUM": NUM, "NAME": NAME, "PLACE": NUM + "," + NUM, "COLOR": "#[0-9a-f]{8}", "BRUSH": "square|round",
    "KIND": "|".join(KINDS), "HOW": "to|more|only|less",
}
FORMS = """
add KIND NUM NUM
drop NUM / bake NUM / wrap NUM / unwrap NUM / mask NUM / unmask NUM
shift NUM NUM NUM
set NUM NAME VALUE
paint NUM BRUSH NUM NUM COLOR PLACE+
erase NUM BRUSH NUM NUM NUM PLACE+
fill NUM PLACE NUM COLOR
select HOW all / select HOW rect PLACE PLACE / select HOW flood PLACE NUM / select HOW alike PLACE NUM
select HOW layer NUM
adjust none / adjust turned / adjust grown NUM / adjust shrunk NUM / adjust feathered NUM / adjust hardened NUM
size NUM NUM
turn NUM NUM NUM NUM NUM NUM NUM NUM
do VALUE
BRACES
repeat NUM NAME BRACES
run NAME
"""
DESK_FORMS = """
undo / redo / go NUM / go TEXT / mark TEXT / unmark TEXT / pen NUM / let NAME NUM / script NAME BRACES
"""


def split(text):
    return [form.split() for line in text.strip().split("\n") for form in line.split(" / ")]


COMMANDS = split(FORMS)
LINES = COMMANDS + split(DESK_FORMS)


def value_end(line, at):
    """The index behind the longest written form that begins here, or None."""
    for end in range(len(line), at, -1):
        try:
            read_value(line[at:end])
        except BadText:
            continue
        return end
    return None


def cut(line):
    """The pairs (column, text) of the tokens; a malformed one has the text None and is the last."""
    out = []
    at = 0
    while at < len(line):
        if line[at] == " ":
            at += 1
        elif line[at] in "{};":
            out.append((at + 1, line[at]))
            at += 1
        elif line[at] in "\"(":
            end = value_end(line, at)
            if end is None or line[end:end + 1] not in ("", " ", "{", "}", ";"):
                return out + [(at + 1, None)]
            out.append((at + 1, line[at:end]))
            at = end
        else:
            end = at + len(re.match("[^ {};]*", line[at:]).group())
            out.append((at + 1, line[at:end]))
            at = end
    return out


def fits(token, what):
    if token is None:
        return False
    if what in TOKENS:
        return re.fullmatch(TOKENS[what], token) is not None
    return token == what


def is_value(token, what):
    if token is None:
        return False
    try:
        value = read_value(token)
    except BadText:
        return False
    return what == "VALUE" or isinstance(value, str)


class Matcher:
    """Follows all forms at once, and remembers the farthest token that was looked at in vain."""

    def __init__(self, tokens):
        self.tokens = tokens
        self.farthest = 0

    def step(self, at, what):
        """The places after one token of this kind."""
        token = self.tokens[at] if at < len(self.tokens) else None
        good = is_value(token, what) if what in ("TEXT", "VALUE") else fits(token, what)
        if good:
            return {at + 1}
        self.farthest = max(self.farthest, at)
        return set()

    def steps(self, places, what):
        return set().union(*(self.step(at, what) for at in places))

    def forms(self, at, forms, depth):
        return set().union(*(self.form({at}, form, depth) for form in forms))

    def form(self, places, form, depth):
        for what in form:
            if what == "BRACES":
                places = set().union(*(self.braces(at, depth) for at in places))
            elif what == "PLACE+":
                places = self.repeated(self.steps(places, "PLACE"))
            else:
                places = self.steps(places, what)
        return places

    def repeated(self, places):
        every = set()
        while places:
            every |= places
            places = self.steps(places, "PLACE")
        return every

    def braces(self, at, depth):
        if depth == 4:
            self.farthest = max(self.farthest, at)
            return set()
        ends = set()
        places = self.step(at, "{")
        while places:
            places = set().union(*(self.forms(place, COMMANDS, depth + 1) for place in places))
            ends |= self.steps(places, "}")
            places = self.steps(places, ";")
        return ends


def bad_column(line):
    """The column of BadLine for this line, or None if it has one of the forms."""
    if len(line) > 100000:
        return 100001
    tokens = cut(line)
    matcher = Matcher([text for _, text in tokens])
    ends = matcher.forms(0, LINES, 0)
    if len(tokens) in ends:
        return None
    first = max([matcher.farthest] + list(ends))
    return tokens[first][0] if first < len(tokens) else len(line) + 1
