"""The lines of commands."""

from easelwork.forms import form_of, group_of
from easelwork.hexes import hex_text
from easelwork.notation import write_value


def printed(command):
    """The line that the command is read from, with one space between each two tokens."""
    return " ".join(_command_tokens(command))


def _command_tokens(command):
    word = command[0]
    if word == "block":
        return _commands_tokens(command[1])
    if word == "adjust":
        return [word] + _form_tokens("CHANGE", command[1:])
    return _form_tokens(group_of(word), command)


def _form_tokens(group, values):
    """The tokens of a form, whose values are its word and its arguments."""
    out = [values[0]]
    for kind, value in zip(form_of(group, values[0]), values[1:]):
        writing = WRITERS[kind]
        out.extend(writing(value))
    return out


def _num_text(value):
    if isinstance(value, tuple):
        return value[0] + value[1]
    return str(value)


def _place_text(value):
    return _num_text(value[0]) + "," + _num_text(value[1])


def _num_tokens(value):
    return [_num_text(value)]


def _word_tokens(value):
    return [value]


def _place_tokens(value):
    return [_place_text(value)]


def _places_tokens(value):
    return [_place_text(place) for place in value]


def _nums_tokens(value):
    return [_num_text(number) for number in value]


def _color_tokens(value):
    return ["#" + hex_text(value)]


def _value_tokens(value):
    return [write_value(value)]


def _target_tokens(value):
    return [write_value(value)] if isinstance(value, str) else [_num_text(value)]


def _source_tokens(value):
    return _form_tokens("SOURCE", value)


def _commands_tokens(value):
    out = ["{"]
    for at, command in enumerate(value):
        if at > 0:
            out.append(";")
        out.extend(_command_tokens(command))
    out.append("}")
    return out


# What makes the tokens of each kind of argument.
WRITERS = {
    "NUM": _num_tokens,
    "NAME": _word_tokens,
    "PLACE": _place_tokens,
    "PLACES": _places_tokens,
    "SEVEN": _nums_tokens,
    "COLOR": _color_tokens,
    "TEXT": _value_tokens,
    "VALUE": _value_tokens,
    "TARGET": _target_tokens,
    "KIND": _word_tokens,
    "BRUSH": _word_tokens,
    "HOW": _word_tokens,
    "SOURCE": _source_tokens,
    "COMMANDS": _commands_tokens,
}
