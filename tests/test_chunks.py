"""Chunks: point 54."""

import unittest
from random import Random

import histories
from making import refusal

from easelwork.chunks import chunks, from_chunks
from easelwork.documents import Document
from easelwork.history import History
from easelwork.layers import layer, walk
from easelwork.notation import read_value, write_value

DOT = (5, 5, 5, 5)


def small():
    """A history with two states, a branch, a name, and spots on both sides of 0."""
    spots = ((-1, -9, DOT), (0, 0, DOT), (7, 7, DOT), (8, 7, DOT), (3, 8, DOT))
    root = layer(0, "group", layer(5, "paint", spots=spots), layer(2, "pass", layer(3, "blur"), opacity=9))
    history = History(Document(3, 2, root, chosen=((1, 1, 7),)))
    history.act(("set", 3, "radius", 2), pen=4)
    history.mark("a\"\\")
    history.undo()
    history.act(("drop", 2))
    return history


class ChunksTest(unittest.TestCase):
    def test_texts(self):
        drop = ("add", 0, 1, layer(2, "pass", layer(3, "blur"), opacity=9))
        plain = ("over", 255, None, True, "")
        self.assertEqual(chunks(small()), {
            "top": '(3,2,((1,1,7),),2,((0,2),),(("a\\"\\\\",1),))',
            "state 0": "(none,none,none,0)",
            "state 1": '(0,("set",3,"radius",2),("set",3,"radius",1),4)',
            "state 2": write_value((0, ("drop", 2), drop, 0)),
            "layer 0": write_value(("group", plain, (), (5,))),
            "layer 5": write_value(("paint", plain, (), ())),
            "spots 5 -1 -2": write_value(((-1, -9, DOT),)),
            "spots 5 0 0": write_value(((0, 0, DOT), (7, 7, DOT))),
            "spots 5 1 0": write_value(((8, 7, DOT),)),
            "spots 5 0 1": write_value(((3, 8, DOT),)),
        })

    def test_only_the_layers_of_the_present_document(self):
        history = small()
        history.go(1)
        table = chunks(history)
        self.assertEqual({key for key in table if key.startswith("layer")}, {"layer 0", "layer 5", "layer 2", "layer 3"})
        self.assertEqual(read_value(table["layer 2"]), ("pass", ("over", 9, None, True, ""), (), (3,)))
        self.assertEqual(read_value(table["layer 3"]), ("blur", ("over", 255, None, True, ""), (2, 1), ()))
        self.assertEqual(read_value(table["layer 0"])[3], (5, 2))

    def test_the_dict_is_new_at_each_call(self):
        history = small()
        table = chunks(history)
        table.clear()
        self.assertEqual(len(chunks(history)), 10)


class FromChunksTest(unittest.TestCase):
    def test_a_small_history(self):
        history = small()
        self.assertEqual(from_chunks(chunks(history)).pack(), history.pack())

    def test_the_order_of_the_keys_does_not_matter(self):
        table = chunks(small())
        keys = sorted(table)
        for order in (keys, keys[::-1], keys[5:] + keys[:5]):
            self.assertEqual(from_chunks({key: table[key] for key in order}).pack(), small().pack())

    def test_the_dict_stays_as_it_was_and_has_no_effect_later(self):
        table = chunks(small())
        before = dict(table)
        history = from_chunks(table)
        self.assertEqual(table, before)
        table.clear()
        self.assertEqual(history.pack(), small().pack())

    def test_many_histories(self):
        for seed in range(80):
            chance = Random(seed)
            history = histories.some_history(chance, 14)
            table = chunks(history)
            made = from_chunks(table)
            self.assertEqual((made.pack(), chunks(made)), (history.pack(), table))
            for text in table.values():
                self.assertIsInstance(read_value(text), tuple)
            for _ in range(6):
                entry = histories.some_entry(chance, history)
                self.assertEqual(refusal(made.perform, entry), refusal(history.perform, entry))
            self.assertEqual((made.pack(), chunks(made)), (history.pack(), chunks(history)))

    def test_spots_are_those_of_their_squares(self):
        for seed in range(20):
            history = histories.some_history(Random(seed), 8, kinds=("paint", "group"))
            table = chunks(history)
            found = {}
            for key in table:
                if key.startswith("spots"):
                    _, number, i, j = key.split(" ")
                    held = read_value(table[key])
                    self.assertEqual({(x // 8, y // 8) for x, y, _ in held}, {(int(i), int(j))})
                    self.assertEqual(sorted(held, key=lambda spot: (spot[1], spot[0])), list(held))
                    found.setdefault(int(number), []).extend(held)
            for tree in walk(history.document.root):
                if tree[1] == "paint":
                    self.assertEqual(sorted(found.get(tree[0], [])), sorted(tree[3][0]))

    def test_a_history_of_two_hundred_states(self):
        history = History(Document(1, 1, layer(0, "group", layer(1, "solid"))))
        for k in range(199):
            history.act(("set", 1, "opacity", k))
            if k == 100:
                history.go(50)
        self.assertEqual(from_chunks(chunks(history)).pack(), history.pack())


if __name__ == "__main__":
    unittest.main()
