"""Point 53: sealed disk blocks, torn at every place."""

import unittest
from random import Random

from easelwork.disk import Disk
from easelwork.errors import Full
from easelwork.sealed import seal, unsealed

OLDS = ("~~~~~~", "1aaaa1", "1aaaa2", "2bbbb1", "3cccc1", "2~~~~3", "x1212y", "1aaaa3", "3xxxx2", "33", "12", "ab")


def fates_of(width):
    fates = [("lost",), ("whole",)]
    return fates + [(word, j) for word in ("head", "tail") for j in range(width + 1)]


class SealTest(unittest.TestCase):
    def test_the_example_of_the_document(self):
        self.assertEqual(seal("1aaaaa2", "xy"), "3xy~~~3")

    def test_the_least_free_mark_is_taken(self):
        for old, mark in (("~a~", "1"), ("1a1", "2"), ("2a2", "1"), ("1a2", "3"), ("2a1", "3"), ("1a3", "2"),
                          ("3a1", "2"), ("2a3", "1"), ("3a2", "1"), ("3a3", "1"), ("xa1", "2"), ("1ax", "2")):
            self.assertEqual(seal(old, ""), mark + "~" + mark)

    def test_bodies_that_just_fit_and_that_do_not(self):
        for old in OLDS:
            room = len(old) - 2
            for size in range(room + 1):
                self.assertEqual(unsealed(seal(old, "b" * size)), "b" * size)
                self.assertEqual(len(seal(old, "b" * size)), len(old))
            for size in (room + 1, room + 2, room + 50):
                with self.assertRaises(Full):
                    seal(old, "b" * size)

    def test_unsealed(self):
        for block, body in (("11", ""), ("22", ""), ("1~1", ""), ("3ab3", "ab"), ("3a~b~~3", "a~b"), ("2 2", " "),
                            ("1121", "12"), ("2~a~2", "~a")):
            self.assertEqual(unsealed(block), body)
        for block in ("12", "1a2", "~~", "~~~~", "aa", "4a4", "0a0", "1a", "a1", "1aaa~", "~aaa1", "31"):
            self.assertIsNone(unsealed(block))

    def test_every_sign_may_end_a_body(self):
        for sign in map(chr, range(32, 126)):
            self.assertEqual(unsealed(seal("abcdefgh", "x" + sign)), "x" + sign)
            self.assertEqual(unsealed(seal("abcd", sign + sign)), sign + sign)

    def test_what_was_sealed_is_read_back(self):
        chance = Random(1)
        for _ in range(300):
            old = "".join(chance.choice("123~ab ") for _ in range(chance.randint(2, 12)))
            body = "".join(chance.choice("123ab }") for _ in range(chance.randint(0, len(old) - 2)))
            new = seal(old, body)
            self.assertEqual(unsealed(new), body)
            self.assertIn(new[0], "123")
            self.assertNotIn(new[0], (old[0], old[-1]))
            self.assertEqual(new, new[0] + body + "~" * (len(old) - 2 - len(body)) + new[0])


class TornTest(unittest.TestCase):
    def check_torn(self, disk, at, body):
        """Every fate of one sealed write leaves the old block, the whole new one, or an unsealed one."""
        old = disk.read(at)
        new = seal(old, body)
        twin = disk.twin()
        twin.write(at, new)
        for fate in fates_of(disk.width):
            found = twin.cut(1, (fate,)).read(at)
            self.assertTrue(found in (old, new) or unsealed(found) is None, (old, new, fate))

    def test_a_torn_write_is_seen(self):
        chance = Random(2)
        for _ in range(60):
            disk = Disk(4, 40)
            old = "".join(chance.choice("123~ab") for _ in range(40))
            if chance.randint(0, 2):
                old = seal(old, "old body"[:chance.randint(0, 8)])
            disk.write(2, old)
            self.check_torn(disk, 2, "".join(chance.choice("123ab") for _ in range(chance.choice((0, 1, 5, 38)))))

    def test_a_write_over_a_torn_one_is_seen_too(self):
        disk = Disk(4, 40)
        disk.write(0, seal(disk.read(0), "first"))
        disk.sync()
        disk.write(0, seal(disk.read(0), "second"))
        for fate in fates_of(40):
            self.check_torn(disk.cut(3, (fate,)), 0, "third")


if __name__ == "__main__":
    unittest.main()
