"""Point 19: the lines of a text, the places of its signs, and their polygons."""

import unittest
from random import Random

import growing
import slow

from easelwork.texts import glyph_places, lines, text_polygons

# Each sign is as wide as its number tells, in 16ths of a pixel.
FONT = (4, (("1", 16, ()), ("2", 32, (((0, 0), (16, 0), (0, 16)),)), ("a", 0, (((0, 0, 8, 8), (16, 16)),))))
TEXTS = ("", " ", "    ", "a", "1 2", "  1   22  ", "12 a 21", "1 1 1 1 1 1", "2222 1 2222", "a a a a a", "1 2 " * 12)


def some_text(chance):
    return "".join(chance.choice("ab z") for _ in range(chance.randint(0, 48)))


class LinesTest(unittest.TestCase):
    def test_words_go_on_a_line_as_long_as_they_fit(self):
        # "1 1" is 36 wide, at scale 16 that is 36 * 16 in 256ths.
        self.assertEqual(lines(FONT, "1 1", 16, 36), (("1", "1"),))
        self.assertEqual(lines(FONT, "1 1", 16, 35), (("1",), ("1",)))
        self.assertEqual(lines(FONT, "1 1", 8, 18), (("1", "1"),))
        self.assertEqual(lines(FONT, "1 1", 8, 17), (("1",), ("1",)))

    def test_a_word_wider_than_the_room_stands_alone(self):
        self.assertEqual(lines(FONT, "1 2222 1", 16, 40), (("1",), ("2222",), ("1",)))
        self.assertEqual(lines(FONT, "2222 2222", 16, 0), (("2222",), ("2222",)))

    def test_words_without_width_need_room_for_the_blank(self):
        self.assertEqual(lines(FONT, "a a a", 16, 8), (("a", "a", "a"),))
        self.assertEqual(lines(FONT, "a a a", 16, 7), (("a", "a"), ("a",)))
        self.assertEqual(lines(FONT, "a a", 16, 0), (("a",), ("a",)))

    def test_no_words(self):
        for words in ("", " ", "     "):
            self.assertEqual(lines(FONT, words, 16, 100), ())

    def test_several_spaces_are_one(self):
        self.assertEqual(lines(FONT, "   1    2 ", 16, 100), (("1", "2"),))

    def test_the_lines_of_the_document_and_their_guarantees(self):
        chance = Random(1)
        for turn in range(300):
            font = growing.font(chance)
            words = some_text(chance)
            scale, room = chance.randint(1, 64), chance.choice((0, 64, chance.randint(0, 400), 4096))
            got = lines(font, words, scale, room)
            self.assertEqual(got, slow.lines(font, words, scale, room))
            self.assertEqual([word for line in got for word in line], words.split())
            wide = {sign: advance for sign, advance, _ in font[1]}

            def width(line):
                return (sum(wide[sign] for word in line for sign in word) + font[0] * (len(line) - 1)) * scale
            for line, following in zip(got, got[1:] + ((),)):
                if len(line) > 1:
                    self.assertLessEqual(width(line), 16 * room)
                if following:
                    self.assertGreater(width(line + following[:1]), 16 * room)


class GlyphPlacesTest(unittest.TestCase):
    def test_left_middle_and_right(self):
        self.assertEqual(glyph_places(FONT, "12 1", 2, 100, 9, "left"), (("1", 0, 0), ("2", 32, 0), ("1", 104, 0)))
        # The line is 136 of 1600 wide.
        self.assertEqual([x for _, x, _ in glyph_places(FONT, "12 1", 2, 100, 9, "right")], [1464, 1496, 1568])
        self.assertEqual([x for _, x, _ in glyph_places(FONT, "12 1", 2, 100, 9, "middle")], [732, 764, 836])

    def test_a_line_wider_than_the_room_hangs_over(self):
        self.assertEqual(glyph_places(FONT, "2", 1, 1, 9, "right"), (("2", -16, 0),))
        self.assertEqual(glyph_places(FONT, "2", 1, 1, 9, "middle"), (("2", -8, 0),))
        # 16 - 33 is odd: half of it is rounded down.
        self.assertEqual(glyph_places((1, (("x", 33, ()),)), "x", 1, 1, 9, "middle"), (("x", -9, 0),))

    def test_lines_lie_below_one_another(self):
        got = glyph_places(FONT, "1 2 1", 3, 0, 5, "left")
        self.assertEqual(got, (("1", 0, 0), ("2", 0, 15), ("1", 0, 30)))
        self.assertEqual([y for _, _, y in glyph_places(FONT, "1 2 1", 3, 0, 0, "left")], [0, 0, 0])

    def test_no_words(self):
        for words in ("", "   "):
            self.assertEqual(glyph_places(FONT, words, 3, 9, 5, "right"), ())

    def test_the_places_of_the_document(self):
        chance = Random(2)
        for turn in range(200):
            font = growing.font(chance)
            rest = (some_text(chance), chance.randint(1, 64), chance.randint(0, 500), chance.randint(0, 64))
            for side in ("left", "middle", "right"):
                self.assertEqual(glyph_places(font, *rest, side), slow.glyph_places(font, *rest, side))


class TextPolygonsTest(unittest.TestCase):
    def test_one_sign(self):
        self.assertEqual(text_polygons(FONT, 3, (1, -2), "2", 9, 5, "left"),
                         (((1024, -2048), (1024 + 64 * 48, -2048), (1024, 64 * 16)),))

    def test_handles_move_as_points_do(self):
        got = text_polygons(FONT, 16, (5, 7), "a", 9, 5, "left")
        moved = ((80, 112, 80 + 128, 112 + 128), (80 + 256, 112 + 256))
        self.assertEqual(got, (slow.chords(moved),))

    def test_signs_without_outlines_and_texts_without_words(self):
        self.assertEqual(text_polygons(FONT, 3, (1, 2), "11 1", 9, 5, "left"), ())
        self.assertEqual(text_polygons(FONT, 3, (1, 2), "  ", 9, 5, "left"), ())

    def test_the_polygons_of_the_document(self):
        chance = Random(3)
        for turn in range(60):
            arguments = (growing.font(chance), chance.randint(1, 64),
                         (chance.randint(-2048, 3072), chance.randint(-2048, 3072)), some_text(chance),
                         chance.randint(0, 300), chance.randint(0, 64), chance.choice(("left", "middle", "right")))
            self.assertEqual(text_polygons(*arguments), slow.text_polygons(*arguments))


if __name__ == "__main__":
    unittest.main()
