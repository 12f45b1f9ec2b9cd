"""The desk: a history with kept tiles, windows, a command language and a file."""

from easelwork.blame import blame
from easelwork.commands import parse
from easelwork.errors import BadValue, NoChange, NotAFile, TooLarge
from easelwork.files import File, format_disk, read_disk
from easelwork.history import MOST_PEN, History
from easelwork.kept import Kept
from easelwork.running import filled, worked
from easelwork.windows import Window

MOST_WINDOWS = 6


class Desk:
    """All that works on one history."""

    def __init__(self, document, *, side=8, room=40):
        self.kept = Kept(side, room=room)
        self.history = History(document)
        self.pen = 0
        self._windows = {}
        # How many windows were ever opened: no number is used twice.
        self._opened = 0
        self._names = {}
        self._scripts = {}
        self._file = None
        # What was done since the last note or save.
        self._entries = []

    @classmethod
    def reopened(cls, disk, *, side=8, room=40):
        """A desk with the history of the file on the disk."""
        history = read_disk(disk)
        made = cls(history.document, side=side, room=room)
        made.history = history
        made._file = File.attach(disk)
        return made

    @property
    def document(self):
        """The document of the present state."""
        return self.history.document

    def line(self, text):
        """Carries out the command that is written in the line."""
        command = parse(text)
        word = command[0]
        if word == "undo":
            return self.undo()
        if word == "redo":
            return self.redo()
        if word == "go":
            return self.go(filled(command[1], self._names))
        if word == "mark":
            return self.mark(command[1])
        if word == "unmark":
            return self.unmark(command[1])
        if word == "pen":
            self._change_pen(filled(command[1], self._names))
        elif word == "let":
            self._names[command[1]] = filled(command[2], self._names)
        elif word == "script":
            self._scripts[command[1]] = command[2]
        else:
            self._work(command)
        return self.history.now

    def undo(self):
        """Does what the line does; so do the four methods below."""
        return self._perform(("undo",))

    def redo(self):
        return self._perform(("redo",))

    def go(self, target):
        self.history.go(target)
        self._entries.append(("go", self.history.now))
        return self.history.now

    def mark(self, word):
        return self._perform(("mark", word))

    def unmark(self, word):
        return self._perform(("unmark", word))

    def window(self, view):
        """Opens a window on the present state and returns its number."""
        if len(self._windows) >= MOST_WINDOWS:
            raise TooLarge("windows")
        number = self._opened
        self._windows[number] = Window(self.history, self.kept, view)
        self._opened = number + 1
        return number

    def window_at(self, n):
        """The open window with this number."""
        self._check_window(n)
        return self._windows[n]

    def shut(self, n):
        """Closes the window with this number."""
        self._check_window(n)
        del self._windows[n]

    def refresh_all(self):
        """Takes all open windows to the present state; returns the regions of their screens that were made."""
        return {n: self._windows[n].refresh() for n in sorted(self._windows)}

    def ask(self, number, level, i, j):
        """The block of the tile at the present state."""
        return self.kept.ask(self.history, self.history.now, number, level, i, j)

    def blame(self, x, y):
        """The state that has changed the pixel last."""
        return blame(self.history, x, y)

    def found(self, disk, log):
        """Makes a new file of the history on the disk; the desk uses this file from now on."""
        format_disk(disk, self.history, log)
        self._file = File.attach(disk)
        self._entries = []

    def note(self):
        """Adds to the file what was done since it was brought up to date; True if no save was needed."""
        self._check_file()
        noted = self._file.note(self.history, tuple(self._entries))
        self._entries = []
        return noted

    def save(self):
        """Saves the history in the file."""
        self._check_file()
        self._file.save(self.history)
        self._entries = []

    def _perform(self, entry):
        self.history.perform(entry)
        self._entries.append(entry)
        return self.history.now

    def _work(self, command):
        """Makes the state of the deeds that the command stands for."""
        deeds, _ = worked(self.history.document, command, self._names, self._scripts)
        if not deeds:
            raise NoChange()
        self._perform(("act", deeds[0] if len(deeds) == 1 else ("several", deeds), self.pen))

    def _change_pen(self, pen):
        if not 0 <= pen <= MOST_PEN:
            raise BadValue("pen")
        self.pen = pen

    def _check_window(self, n):
        if n not in self._windows:
            raise BadValue("window")

    def _check_file(self):
        if self._file is None:
            raise NotAFile()
