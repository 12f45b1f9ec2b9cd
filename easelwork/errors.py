"""All errors of the program."""


class EaselError(ValueError):
    """The base class of all errors that the program raises."""


class DeedError(EaselError):
    """A deed, a layer, a document or another value cannot be as it is asked for."""


class NoLayer(DeedError):
    """No layer has this number."""

    def __init__(self, number):
        self.number = number


class BadValue(DeedError):
    """The value that this word names is out of range."""

    def __init__(self, field):
        self.field = field


class BadPlace(DeedError):
    """Something stands, or would stand, where it cannot be."""


class NoChange(DeedError):
    """A deed would leave the document as it is."""


class Taken(DeedError):
    """Another layer has this number already."""

    def __init__(self, number):
        self.number = number


class TooLarge(DeedError):
    """There would be too much of what this word names."""

    def __init__(self, what):
        self.what = what


class HistoryError(EaselError):
    """A history cannot do what it is asked for."""


class NoState(HistoryError):
    """A history has no such state."""

    def __init__(self, state):
        self.state = state


class NoWay(HistoryError):
    """There is no step in this direction."""


class NoName(HistoryError):
    """No state has this name."""

    def __init__(self, word):
        self.word = word


class NameTaken(HistoryError):
    """A state has this name already."""

    def __init__(self, word):
        self.word = word


class LineError(EaselError):
    """A line of commands cannot be carried out."""


class BadLine(LineError):
    """A line breaks the form of commands at this column."""

    def __init__(self, column):
        self.column = column


class TooDeep(LineError):
    """Scripts run one another too deep."""


class FileError(EaselError):
    """A file cannot be read or written."""


class Full(FileError):
    """There is too little room."""


class NotAFile(FileError):
    """The disk holds no file."""


class BadText(FileError):
    """A text is no written form: it goes wrong at this position."""

    def __init__(self, position):
        self.position = position


class EndlessRegion(EaselError):
    """What is asked for cannot be told of the region of all places."""


class Singular(EaselError):
    """A matrix leads several points to one, so no way leads back."""
