"""The written form of values: integers, strings, True, False, None and tuples of values."""

from easelwork.errors import BadText
from easelwork.signs import may_stand

MOST_DIGITS = 30
MOST_DEPTH = 40
DIGITS = "0123456789"
WORDS = (("true", True), ("false", False), ("none", None))


def write_value(value):
    """The written form of the value."""
    if value is True:
        return "true"
    if value is False:
        return "false"
    if value is None:
        return "none"
    if isinstance(value, int):
        return str(value)
    if isinstance(value, str):
        return '"' + value.replace("\\", "\\\\").replace('"', '\\"') + '"'
    items = [write_value(item) for item in value]
    if len(items) == 1:
        return "(" + items[0] + ",)"
    return "(" + ",".join(items) + ")"


def read_value(text):
    """The value whose written form the whole text is."""
    value, end = _value_at(text, 0, 0)
    if end < len(text):
        raise BadText(end)
    return value


def read_prefix(text, at):
    """The value with the longest written form that begins at the index, and the index after this form."""
    return _value_at(text, at, 0)


def _value_at(text, at, depth):
    """The value that is written at the index, within depth open tuples, and the index after it."""
    sign = text[at:at + 1]
    if sign == "(":
        return _tuple_at(text, at, depth)
    if sign == '"':
        return _string_at(text, at)
    if "0" <= sign <= "9" or sign == "-":
        return _integer_at(text, at)
    return _word_at(text, at)


def _tuple_at(text, at, depth):
    if depth == MOST_DEPTH:
        raise BadText(at)
    items = []
    end = at + 1
    # Behind "(" and behind the first comma the tuple may end; behind a later comma it may not.
    while len(items) > 1 or text[end:end + 1] != ")":
        item, end = _value_at(text, end, depth + 1)
        items.append(item)
        sign = text[end:end + 1]
        if len(items) > 1 and sign == ")":
            break
        if sign != ",":
            raise BadText(end)
        end += 1
    return tuple(items), end + 1


def _string_at(text, at):
    signs = []
    end = at + 1
    while text[end:end + 1] != '"':
        if text[end:end + 1] == "\\":
            end += 1
            if text[end:end + 1] not in ('"', "\\"):
                raise BadText(end)
        elif not may_stand(text[end:end + 1]):
            raise BadText(end)
        signs.append(text[end])
        end += 1
    return "".join(signs), end + 1


def _integer_at(text, at):
    first = at + 1 if text[at] == "-" else at
    signs = text[first:first + MOST_DIGITS]
    many = len(signs) - len(signs.lstrip(DIGITS))
    if many == 0:
        raise BadText(first)
    if signs[0] == "0":
        if first > at:
            raise BadText(first)
        return 0, first + 1
    return int(text[at:first + many]), first + many


def _word_at(text, at):
    for word, value in WORDS:
        if text[at:at + 1] == word[0]:
            for k, sign in enumerate(word):
                if text[at + k:at + k + 1] != sign:
                    raise BadText(at + k)
            return value, at + len(word)
    raise BadText(at)
