"""Lines cut into tokens, and the values of those tokens that are arguments.

A function of a token returns the tuple of the value alone, or () if the token does not fit.
"""

from easelwork.errors import BadText
from easelwork.hexes import hex_parts
from easelwork.layers import KINDS
from easelwork.notation import read_prefix, read_value

MOST_DIGITS = 6
MOST_NAME = 16
SIGNS_ALONE = ("{", "}", ";")
BEHIND_VALUES = ("", " ", "{", "}", ";")
BRUSHES = ("square", "round")
HOWS = ("to", "more", "only", "less")


def cut_tokens(line):
    """The tuple of the pairs (column, text) of all tokens; a malformed one is the last and has no text."""
    tokens = []
    at = 0
    while at < len(line):
        if line[at] == " ":
            at += 1
            continue
        end = _token_end(line, at)
        tokens.append((at + 1, line[at:end]))
        if end == at:
            break
        at = end
    return tuple(tokens)


def num_of(token):
    """An integer, or the pair of a dollar sign and a name."""
    if token[:1] == "$" and name_of(token[1:]):
        return (("$", token[1:]),)
    digits = token[1:] if token[:1] == "-" else token
    if token == "0":
        return (0,)
    if not 1 <= len(digits) <= MOST_DIGITS or not digits.isdigit() or digits[0] == "0":
        return ()
    return (int(token),)


def name_of(token):
    """A short word of small letters and digits."""
    if not 1 <= len(token) <= MOST_NAME or not "a" <= token[0] <= "z":
        return ()
    if not all(["a" <= sign <= "z" or "0" <= sign <= "9" for sign in token]):
        return ()
    return (token,)


def place_of(token):
    """Two numbers with a comma between them."""
    parts = [num_of(part) for part in token.split(",")]
    if len(parts) != 2 or () in parts:
        return ()
    return ((parts[0][0], parts[1][0]),)


def color_of(token):
    """A color in eight digits."""
    color = hex_parts(token[1:]) if token[:1] == "#" else ()
    return (color,) if color else ()


def text_of(token):
    """The string that is written."""
    found = value_of(token)
    return found if found and isinstance(found[0], str) else ()


def value_of(token):
    """The value that is written."""
    try:
        value = read_value(token)
    except BadText:
        return ()
    return (value,)


def kind_of(token):
    """A kind of layers."""
    return (token,) if token in KINDS else ()


def brush_of(token):
    """A manner of brushes."""
    return (token,) if token in BRUSHES else ()


def how_of(token):
    """A way to join selections."""
    return (token,) if token in HOWS else ()


# What reads the one token of each kind of argument.
ARGUMENTS = {
    "NUM": num_of,
    "NAME": name_of,
    "PLACE": place_of,
    "COLOR": color_of,
    "TEXT": text_of,
    "VALUE": value_of,
    "KIND": kind_of,
    "BRUSH": brush_of,
    "HOW": how_of,
}


def _token_end(line, at):
    """The index behind the token that begins at this index; the index itself if the token is malformed."""
    if line[at] in SIGNS_ALONE:
        return at + 1
    if line[at] in ('"', "("):
        return _value_end(line, at)
    end = at
    while line[end:end + 1] not in BEHIND_VALUES:
        end += 1
    return end


def _value_end(line, at):
    try:
        _, end = read_prefix(line, at)
    except BadText:
        return at
    return end if line[end:end + 1] in BEHIND_VALUES else at
