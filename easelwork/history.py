"""Histories: trees of states with undo, redo, jumps and names."""

from easelwork.deeds import do
from easelwork.documents import Document
from easelwork.errors import BadValue, NameTaken, NoName, NoState, NoWay, TooLarge
from easelwork.signs import is_plain

MOST_STATES = 200
MOST_PEN = 99
MOST_WORD = 24


class History:
    """All states that deeds have made of a document, and the way to the present one."""

    def __init__(self, document):
        self.now = 0
        # What others have worked out about states and layers: a state never changes, so it holds for ever.
        self.learned = {}
        self._rows = [(0, None, None, None, 0)]
        self._documents = [document]
        self._followings = {}
        self._names = {}

    @classmethod
    def rebuilt(cls, pack):
        """The history with this pack."""
        (wide, high, root, chosen), rows, now, followings, names = pack
        made = cls(_first_document(Document(wide, high, root, chosen=chosen), rows, now))
        made._refill(rows, now, followings, names)
        return made

    @property
    def document(self):
        """The document of the present state."""
        return self._documents[self.now]

    def __len__(self):
        return len(self._rows)

    def __iter__(self):
        return iter(self._rows)

    def act(self, deed, *, pen=0):
        """Does the deed on the present document; the new state is the present one."""
        if not 0 <= pen <= MOST_PEN:
            raise BadValue("pen")
        if len(self._rows) >= MOST_STATES:
            raise TooLarge("states")
        made, inverse = do(self._documents[self.now], deed)
        state = len(self._rows)
        self._rows.append((state, self.now, deed, inverse, pen))
        self._documents.append(made)
        self._step_down(state)
        return self.now

    def undo(self):
        """One step up, or as many as were done in a row with the same pen other than 0."""
        if self.now == 0:
            raise NoWay()
        pen = self._rows[self.now][4]
        self._step_up()
        # The pen of state 0 is 0, so no step leads beyond it.
        while pen != 0 and self._rows[self.now][4] == pen:
            self._step_up()
        return self.now

    def redo(self):
        """One step down the following states, or as many as have the same pen other than 0 in a row."""
        if self.now not in self._followings:
            raise NoWay()
        self._step_down(self._followings[self.now])
        pen = self._rows[self.now][4]
        while pen != 0 and self.now in self._followings and self._rows[self._followings[self.now]][4] == pen:
            self._step_down(self._followings[self.now])
        return self.now

    def go(self, target):
        """Steps to a state, or to the state with this name."""
        state = target
        if isinstance(target, str):
            if target not in self._names:
                raise NoName(target)
            state = self._names[target]
        down = self.road(state)
        while self.now not in down:
            self._step_up()
        for step in down[down.index(self.now) + 1:]:
            self._step_down(step)
        return self.now

    def mark(self, word):
        """Gives the present state a name."""
        if not 1 <= len(word) <= MOST_WORD or not is_plain(word):
            raise BadValue("word")
        if word in self._names:
            raise NameTaken(word)
        self._names[word] = self.now
        return self.now

    def unmark(self, word):
        """Takes a name away."""
        if word not in self._names:
            raise NoName(word)
        del self._names[word]
        return self.now

    def names(self):
        """The pairs of all names and their states, ascending by name."""
        return tuple([(word, self._names[word]) for word in sorted(self._names)])

    def perform(self, entry):
        """Makes the call that the entry names."""
        word = entry[0]
        if word == "act":
            return self.act(entry[1], pen=entry[2])
        if word == "undo":
            return self.undo()
        if word == "redo":
            return self.redo()
        if word == "go":
            return self.go(entry[1])
        if word == "mark":
            return self.mark(entry[1])
        return self.unmark(entry[1])

    def document_at(self, state):
        """The document that the state stands for."""
        self._check_state(state)
        return self._documents[state]

    def plain(self, state):
        """The same document, made anew by the deeds from state 0 on."""
        made = self._documents[0]
        for step in self.road(state)[1:]:
            made, _ = do(made, self._rows[step][2])
        return made

    def parent(self, state):
        """The parent of the state, None for state 0."""
        self._check_state(state)
        return self._rows[state][1]

    def road(self, state):
        """The states from 0 to this one, each the parent of the one after it."""
        self._check_state(state)
        return _climbed(self._rows, state)

    def children(self, state):
        """The states whose parent this one is."""
        self._check_state(state)
        return tuple([row[0] for row in self._rows if row[1] == state])

    def following(self, state):
        """The state that redo leads to, or None."""
        self._check_state(state)
        return self._followings.get(state)

    def way(self, a, b):
        """The states that are entered or left on the shortest way from a to b."""
        up = self.road(a)
        down = self.road(b)
        left = [state for state in up if state not in down]
        return tuple(left[::-1] + [state for state in down if state not in up])

    def pack(self):
        """All that makes this history, as one tuple of plain values."""
        followings = tuple([(state, self._followings[state]) for state in sorted(self._followings)])
        return (self._documents[self.now].pack(), tuple(self._rows), self.now, followings, self.names())

    def _check_state(self, state):
        if not 0 <= state < len(self._rows):
            raise NoState(state)

    def _step_up(self):
        parent = self._rows[self.now][1]
        self._followings[parent] = self.now
        self.now = parent

    def _step_down(self, state):
        self._followings[self.now] = state
        self.now = state

    def _refill(self, rows, now, followings, names):
        """Makes the states of the rows after the first one, where this history is new."""
        for row in rows[1:]:
            made, _ = do(self._documents[row[1]], row[2])
            self._rows.append(row)
            self._documents.append(made)
        self.now = now
        self._followings = {state: step for state, step in followings}
        self._names = {word: state for word, state in names}


def _climbed(rows, state):
    """The states on the way from 0 to this one."""
    out = [state]
    while out[-1] != 0:
        out.append(rows[out[-1]][1])
    return tuple(out[::-1])


def _first_document(document, rows, now):
    """The document of state 0, where this is the one of the state now: all deeds up to it are taken back."""
    for state in _climbed(rows, now)[:0:-1]:
        document, _ = do(document, rows[state][3])
    return document
