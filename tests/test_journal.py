"""The log: point 56."""

import unittest
from random import Random

from making import refusal

from easelwork.disk import Disk
from easelwork.journal import bodies, record_texts
from easelwork.notation import write_value
from easelwork.sealed import seal, unsealed

WIDTH = 40


def disk_with_log(rows, log=6, generation=4, session=3, width=WIDTH):
    """A disk whose log holds these bodies; None stands for a disk block that is not sealed."""
    disk = Disk(20, width)
    disk.write(0, seal(disk.read(0), write_value((2, generation, session, log, 2, (19,)))))
    for k, body in enumerate(rows):
        if body is not None:
            disk.write(2 + k, seal(disk.read(2 + k), body))
    return disk


class BodiesTest(unittest.TestCase):
    def test_one_body(self):
        self.assertEqual(bodies("abc", 1, 2, 3, 40), ("1,2,3,1,abc",))
        self.assertEqual(bodies("a" * 30, 1, 2, 3, 40), ("1,2,3,1," + "a" * 30,))
        self.assertEqual(bodies("a" * 31, 1, 2, 3, 40), ("1,2,3,0," + "a" * 30, "1,2,4,1,a"))

    def test_the_room_changes_with_the_digits(self):
        self.assertEqual(bodies("a" * 60, 10, 200, 8, 40),
                         ("10,200,8,0," + "a" * 27, "10,200,9,0," + "a" * 27, "10,200,10,1," + "a" * 6))
        self.assertEqual(bodies("a" * 54, 10, 200, 9, 40),
                         ("10,200,9,0," + "a" * 27, "10,200,10,0," + "a" * 26, "10,200,11,1,a"))

    def test_the_greatest_numbers(self):
        held = bodies("a" * 40, 999999, 999999, 999999, 40)
        self.assertEqual(held, ("999999,999999,999999,0," + "a" * 15, "999999,999999,1000000,0," + "a" * 14,
                                "999999,999999,1000001,1," + "a" * 11))
        self.assertEqual(bodies("a", 0, 0, 0, 512), ("0,0,0,1,a",))

    def test_against_the_words(self):
        for seed in range(300):
            chance = Random(seed)
            width = chance.choice((40, 41, 64, 512))
            record = "".join(chance.choice("abc,(1)") for _ in range(chance.randint(1, 300)))
            g, s, p = [chance.choice((0, 7, 99, 999, 999999, chance.randint(0, 999999))) for _ in range(3)]
            held = bodies(record, g, s, p, width)
            pieces = []
            for k, body in enumerate(held):
                parts = body.split(",", 4)
                self.assertEqual(parts[:4], [str(g), str(s), str(p + k), "1" if k == len(held) - 1 else "0"])
                if k < len(held) - 1:
                    self.assertEqual(len(body), width - 2)
                self.assertTrue(1 <= len(parts[4]) and len(body) <= width - 2)
                pieces.append(parts[4])
            self.assertEqual("".join(pieces), record)


class RecordsTest(unittest.TestCase):
    def test_no_file(self):
        self.assertEqual(refusal(record_texts, Disk(5, 40)), ("NotAFile",))

    def test_an_empty_log(self):
        self.assertEqual(record_texts(disk_with_log([])), ((), 0))

    def test_records_of_one_body_and_of_many(self):
        rows = ["4,1,0,1,one", "4,1,1,0,tw", "4,1,2,0,o", "4,1,3,1,!", "4,3,4,1,x,y"]
        self.assertEqual(record_texts(disk_with_log(rows)), (("one", "two!", "x,y"), 5))

    def test_a_full_log(self):
        rows = [f"4,1,{k},1,r{k}" for k in range(6)]
        self.assertEqual(record_texts(disk_with_log(rows)), (tuple(f"r{k}" for k in range(6)), 6))
        # What stands behind the log is not looked at.
        self.assertEqual(record_texts(disk_with_log(rows, log=4)), (("r0", "r1", "r2", "r3"), 4))

    def test_a_record_that_is_not_complete_is_left_out(self):
        rows = ["4,1,0,1,one", "4,1,1,0,tw", "4,1,2,0,o"]
        self.assertEqual(record_texts(disk_with_log(rows)), (("one",), 1))
        self.assertEqual(record_texts(disk_with_log(rows, log=3)), (("one",), 1))
        self.assertEqual(record_texts(disk_with_log(["4,1,0,0,tw", "4,1,1,0,o"], log=2)), ((), 0))

    def test_each_rule_that_is_broken_ends_the_reading(self):
        good = ["4,2,0,1,one", "4,2,1,0,tw", "4,2,2,1,o", "4,2,3,1,last"]
        self.assertEqual(record_texts(disk_with_log(good))[1], 4)
        broken = {
            1: [None],
            2: ["3,2,{p},{l},z", "5,2,{p},{l},z", "0,2,{p},{l},z"],
            3: ["4,2,9,{l},z", "4,2,0,{l},z"],
            4: ["4,0,{p},{l},z", "4,4,{p},{l},z"],
            5: ["4,1,{p},{l},z"],
        }
        for at, (last, end, records) in {1: (0, 1, ("one",)), 2: (1, 1, ("one",)), 3: (1, 3, ("one", "two"))}.items():
            for bodies_of_rule in broken.values():
                for body in bodies_of_rule:
                    if body is not None:
                        body = body.replace("{p}", str(at)).replace("{l}", str(last))
                        if body.split(",")[:3] == ["4", "2", str(at)]:
                            continue
                    rows = good[:at] + [body] + good[at + 1:]
                    self.assertEqual(record_texts(disk_with_log(rows)), (records, end), (at, body))

    def test_position_0(self):
        for body in (None, "3,2,0,1,z", "4,2,1,1,z", "4,0,0,1,z", "4,4,0,1,z"):
            self.assertEqual(record_texts(disk_with_log([body, "4,2,1,1,b"])), ((), 0))
        self.assertEqual(record_texts(disk_with_log(["4,1,0,1,a", "4,3,1,1,b"])), (("a", "b"), 2))

    def test_the_session_is_one_within_a_record(self):
        rows = ["4,1,0,1,one", "4,2,1,0,tw", "4,3,2,1,o", "4,3,3,1,x"]
        self.assertEqual(record_texts(disk_with_log(rows)), (("one",), 1))
        rows = ["4,1,0,1,one", "4,2,1,0,tw", "4,2,2,1,o", "4,3,3,1,x"]
        self.assertEqual(record_texts(disk_with_log(rows)), (("one", "two", "x"), 4))

    def test_sessions_do_not_fall_between_records(self):
        rows = ["4,2,0,1,one", "4,1,1,1,two"]
        self.assertEqual(record_texts(disk_with_log(rows)), (("one",), 1))

    def test_what_bodies_makes_is_read_again(self):
        for seed in range(60):
            chance = Random(seed)
            width = chance.choice((40, 64, 100))
            records = ["".join(chance.choice("abc,()1") for _ in range(chance.randint(1, 120))) for _ in range(4)]
            rows = []
            ends = [0]
            for record in records:
                rows.extend(bodies(record, 4, chance.randint(3, 3), len(rows), width))
                ends.append(len(rows))
            log = chance.randint(2, 17)
            disk = disk_with_log(rows[:17], log=log, width=width)
            whole = max(k for k, end in enumerate(ends) if end <= log)
            self.assertEqual(record_texts(disk), (tuple(records[:whole]), ends[whole]))
            self.assertIsNotNone(unsealed(disk.read(0)))


if __name__ == "__main__":
    unittest.main()
