"""Histories that several tests make for themselves, with branches, pens and names, always the same ones."""

import doing
import growing

from easelwork.errors import EaselError
from easelwork.history import History

WORDS = ("a", "b", "c d")


def some_entry(chance, history):
    """An entry that the history may perform; some are refused."""
    word = chance.choice(("act",) * 6 + ("undo", "undo", "redo", "go", "go", "mark", "unmark"))
    if word == "act":
        return ("act", doing.some_deed(chance, history.document), chance.choice((0, 0, 1, 1, 7)))
    if word == "go":
        names = [name for name, _ in history.names()]
        return ("go", chance.choice(list(range(len(history))) + names))
    if word in ("mark", "unmark"):
        return (word, chance.choice(WORDS))
    return (word,)


def grown(chance, history, count):
    """Performs up to this many entries and returns those that were done."""
    done = []
    for _ in range(count):
        entry = some_entry(chance, history)
        try:
            history.perform(entry)
        except EaselError:
            continue
        done.append(entry)
    return done


def some_history(chance, count, wide=5, high=4, deep=2, kinds=None):
    history = History(growing.document(chance, wide, high, deep, kinds))
    grown(chance, history, count)
    return history
