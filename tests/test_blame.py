"""Blame: point 63."""

import unittest
from random import Random

import histories
import slow
from making import refusal

from easelwork.blame import blame
from easelwork.documents import Document
from easelwork.history import History
from easelwork.layers import layer


def begun(wide=3, high=2):
    return History(Document(wide, high, layer(0, "group", layer(1, "paint"), layer(2, "solid", shown=False))))


def put(x, y, k):
    return ("put", 1, ((x, y, (k, k, k, k)),))


def slow_blame(history, x, y):
    for state in reversed(history.road(history.now)):
        if state > 0:
            new = history.document_at(state)
            old = history.document_at(list(history)[state][1])
            if x >= old.wide or y >= old.high or slow.plane(old.root).at(x, y) != slow.plane(new.root).at(x, y):
                return state
    return 0


class BlameTest(unittest.TestCase):
    def test_places_beyond_the_canvas(self):
        history = begun()
        for x, y in ((-1, 0), (0, -1), (3, 0), (0, 2), (10 ** 30, 0), (0, -10 ** 30)):
            self.assertEqual(refusal(blame, history, x, y), ("BadPlace",))
        self.assertEqual(blame(history, 2, 1), 0)

    def test_the_last_state_that_has_changed_the_pixel(self):
        history = begun()
        history.act(put(0, 0, 5))
        history.act(put(1, 0, 5))
        history.act(put(0, 0, 6))
        self.assertEqual((blame(history, 0, 0), blame(history, 1, 0), blame(history, 2, 0)), (3, 2, 0))
        history.undo()
        self.assertEqual((blame(history, 0, 0), blame(history, 1, 0)), (1, 2))

    def test_states_that_change_no_pixel_or_change_it_back(self):
        history = begun()
        history.act(put(0, 0, 5))
        history.act(("set", 2, "name", "x"))
        history.act(("set", 1, "mode", "screen"))
        self.assertEqual(blame(history, 0, 0), 1)
        history.act(put(0, 0, 0))
        history.act(put(0, 0, 5))
        self.assertEqual(blame(history, 0, 0), 5)

    def test_only_the_road_counts(self):
        history = begun()
        history.act(put(0, 0, 5))
        history.go(0)
        history.act(put(1, 0, 5))
        self.assertEqual((blame(history, 0, 0), blame(history, 1, 0)), (0, 2))

    def test_beyond_the_canvas_of_the_parent(self):
        history = begun()
        history.act(put(2, 1, 5))
        history.act(("size", 2, 2))
        history.act(("size", 4, 2))
        self.assertEqual([blame(history, x, 1) for x in range(4)], [0, 0, 3, 3])
        history.act(put(3, 1, 5))
        self.assertEqual((blame(history, 3, 1), blame(history, 2, 1)), (4, 3))

    def test_many_histories(self):
        for seed in range(40):
            history = histories.some_history(Random(seed), 15, 4, 3, deep=1)
            for y in range(history.document.high):
                for x in range(history.document.wide):
                    self.assertEqual(blame(history, x, y), slow_blame(history, x, y))


if __name__ == "__main__":
    unittest.main()
