"""Exports: point 64."""

import unittest
from random import Random

import histories
from making import pixel_block, refusal

from easelwork.desk import Desk
from easelwork.exports import header_line, read_block, road_lines, row_line, write_block
from easelwork.history import History
from easelwork.notation import read_value

RED = (255, 0, 0, 255)
CLEAR = (0, 0, 0, 0)
DIM = (1, 10, 16, 171)


class WriteTest(unittest.TestCase):
    def test_lines(self):
        self.assertEqual([header_line(*size) for size in ((0, 0), (1, 1000), (7, 12))], ["0 0", "1 1000", "7 12"])
        self.assertEqual(row_line((RED,)), "1*ff0000ff")
        self.assertEqual(row_line((RED, RED, CLEAR, DIM, RED)), "2*ff0000ff 1*00000000 1*010a10ab 1*ff0000ff")
        self.assertEqual(row_line((CLEAR,) * 1000), "1000*00000000")

    def test_blocks(self):
        self.assertEqual(write_block(()), "0 0")
        self.assertEqual(write_block(((RED, RED), (RED, CLEAR))), "2 2\n2*ff0000ff\n1*ff0000ff 1*00000000")
        self.assertEqual(write_block(((RED,),) * 3), "1 3" + "\n1*ff0000ff" * 3)


class ReadTest(unittest.TestCase):
    def bad(self, text, position):
        self.assertEqual(refusal(read_block, text), ("BadText", position), text)

    def test_good_texts(self):
        self.assertEqual(read_block("0 0"), ())
        self.assertEqual(read_block("1 1\n1*ff0000ff"), ((RED,),))
        self.assertEqual(read_block("3 1\n1*ff0000ff 2*010a10ab"), ((RED, DIM, DIM),))
        self.assertEqual(read_block("1000 1\n1000*00000000"), ((CLEAR,) * 1000,))
        self.assertEqual(len(read_block("1 1000" + "\n1*00000000" * 1000)), 1000)

    def test_first_lines(self):
        for line in ("", "0", "0 1", "1 0", "0  0", " 0 0", "0 0 ", "00 0", "1 01", "01 1", "1001 1", "1 1001", "-1 1", "1,1",
                     "1 1 1", "x 1", "1 x", "+1 1", "1\t1", "1 ", " 1"):
            self.bad(line, 0)
            self.bad(line + "\n1*00000000", 0)

    def test_rows(self):
        for line in ("", "1*0000000", "1*000000000", "0*00000000", "01*00000000", "2*00000000", "1*FF0000FF", "1*0000000g",
                     "1*00000000 ", " 1*00000000", "1*ff000000", "1*000100fe 1*00000000", "*00000000", "1 00000000",
                     "1**00000000", "-1*00000000", "1*00000000 1*00000000", "1*01000000", "1x00000000", "1*", "1"):
            self.bad("1 1\n" + line, 1)
            self.bad("1 2\n1*00000000\n" + line, 2)
        for line in ("1*00000000 1*00000000", "1*00000000", "3*00000000", "1*00000000  1*000000ff", "2*00000000 0*000000ff",
                     "1*00000000 1*000000ff 1*00000000", "1*00000000 2*000000ff", "99999999999*00000000", "1*00000000, 1*000000ff"):
            self.bad("2 1\n" + line, 1)

    def test_too_many_and_too_few_lines(self):
        self.bad("0 0\n", 1)
        self.bad("0 0\n1*00000000", 1)
        self.bad("1 1\n1*00000000\n", 2)
        self.bad("1 1\n1*00000000\n1*00000000\n1*00000000", 2)
        self.bad("1 1", 1)
        self.bad("1 3\n1*00000000\n1*00000000", 3)
        self.bad("1 3\n1*00000000\n1*0000000", 2)
        self.bad("1 1\n\n1*00000000", 1)
        self.bad("1000 1000", 1)

    def test_there_and_back(self):
        for seed in range(100):
            chance = Random(seed)
            block = pixel_block(chance, chance.randint(1, 9), chance.randint(1, 9))
            if chance.randint(0, 1):
                block = tuple(tuple(sorted(row)) for row in block)
            text = write_block(block)
            self.assertEqual(read_block(text), block)
            self.assertEqual(text.count("\n"), len(block))

    def test_rows_of_a_thousand_pixels(self):
        row = tuple((k % 7, 0, 0, 9) for k in range(1000))
        text = write_block((row, row))
        self.assertEqual(read_block(text), (row, row))
        self.bad(text.replace(" 1*05000009", " 1*05000009 1*05000009", 1), 1)

    def test_each_line_changed(self):
        for seed in range(40):
            chance = Random(seed)
            block = pixel_block(chance, 3, 4)
            lines = write_block(block).split("\n")
            for at in range(len(lines)):
                line = lines[at]
                changed = [line + " ", line[:-1], line.replace("*", "", 1) + "x", line.upper() + " "]
                # The first line may tell another size and still be right.
                for made in changed + ([line + "0", "1" + line] if at > 0 else []):
                    self.bad("\n".join(lines[:at] + [made] + lines[at + 1:]), at)


class RoadTest(unittest.TestCase):
    def test_lines(self):
        history = histories.some_history(Random(4), 12)
        for state in range(len(history)):
            lines = road_lines(history, state)
            self.assertEqual([line[:3] for line in lines], ["do "] * (len(history.road(state)) - 1))
            self.assertEqual([read_value(line[3:]) for line in lines],
                             [list(history)[step][2] for step in history.road(state)[1:]])
        for state in (-1, len(history), 10 ** 59):
            self.assertEqual(refusal(road_lines, history, state), ("NoState", state))
        self.assertEqual(road_lines(history, 0), ())

    def test_a_new_desk_comes_to_the_same_document(self):
        for seed in range(30):
            history = histories.some_history(Random(seed), 14)
            for state in range(len(history)):
                desk = Desk(history.document_at(0))
                for line in road_lines(history, state):
                    desk.line(line)
                self.assertEqual(desk.document, history.document_at(state))

    def test_a_fresh_history(self):
        history = histories.some_history(Random(1), 0)
        self.assertEqual(road_lines(History(history.document), 0), ())


if __name__ == "__main__":
    unittest.main()
