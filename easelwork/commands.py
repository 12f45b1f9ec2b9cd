"""Commands: tuples that are read from lines."""

from easelwork.errors import BadLine
from easelwork.forms import form_of, group_of
from easelwork.tokens import ARGUMENTS, cut_tokens

MOST_SIGNS = 100000
MOST_BRACES = 4


def parse(line):
    """The command that the line is written for."""
    if len(line) > MOST_SIGNS:
        raise BadLine(MOST_SIGNS + 1)
    reader = Reader(line)
    if group_of(reader.text()) == "DESK":
        command = _form(reader, "DESK", 0)
    else:
        command = _command(reader, 0)
    reader.check_end()
    return command


class Reader:
    """The tokens of a line, and the place of the one that is read next."""

    def __init__(self, line):
        self._tokens = cut_tokens(line)
        self._long = len(line)
        self._at = 0

    def text(self):
        """The text of the token that is read next; the empty string if it is malformed or there is none."""
        if self._at == len(self._tokens):
            return ""
        return self._tokens[self._at][1]

    def here(self):
        """The column of this token, or the one behind the line."""
        if self._at == len(self._tokens):
            return self._long + 1
        return self._tokens[self._at][0]

    def take(self, words):
        """Reads the token, which is one of these words."""
        found = self.text()
        if found not in words:
            raise BadLine(self.here())
        self._at += 1
        return found

    def take_form(self, group):
        """Reads the token, which is the word of a form, and returns the word and the kinds of its arguments."""
        word = self.text()
        kinds = form_of(group, word)
        if kinds is None:
            raise BadLine(self.here())
        self._at += 1
        return (word, kinds)

    def take_argument(self, kind):
        """Reads the token, which is an argument of this kind, and returns its value."""
        reading = ARGUMENTS[kind]
        found = reading(self.text())
        if not found:
            raise BadLine(self.here())
        self._at += 1
        return found[0]

    def check_end(self):
        """Raises BadLine if there is a token left."""
        if self._at < len(self._tokens):
            raise BadLine(self.here())


def _command(reader, depth):
    """A command within so many braces."""
    if reader.text() == "{":
        return ("block", _commands(reader, depth))
    return _form(reader, "COMMAND", depth)


def _commands(reader, depth):
    """The commands in braces, where so many braces stand around these."""
    if depth == MOST_BRACES:
        raise BadLine(reader.here())
    reader.take(("{",))
    out = [_command(reader, depth + 1)]
    while reader.take((";", "}")) == ";":
        out.append(_command(reader, depth + 1))
    return tuple(out)


def _form(reader, group, depth):
    """One of the forms of a group: its word, and the values of its arguments."""
    word, kinds = reader.take_form(group)
    out = [word]
    for kind in kinds:
        if kind == "CHANGE":
            out.extend(_form(reader, kind, depth))
        else:
            out.append(_argument(reader, kind, depth))
    return tuple(out)


def _argument(reader, kind, depth):
    """The value of an argument that may be more than one token."""
    if kind == "COMMANDS":
        return _commands(reader, depth)
    if kind == "SOURCE":
        return _form(reader, kind, depth)
    if kind == "SEVEN":
        return tuple([reader.take_argument("NUM") for _ in range(7)])
    if kind == "PLACES":
        return _places(reader)
    if kind == "TARGET":
        return reader.take_argument("TEXT" if reader.text()[:1] == '"' else "NUM")
    return reader.take_argument(kind)


def _places(reader):
    """One place or more, up to the end of the command."""
    out = [reader.take_argument("PLACE")]
    while reader.text() not in ("", ";", "}"):
        out.append(reader.take_argument("PLACE"))
    return tuple(out)
