"""Point [12]: nocrossing.notes."""

import unittest
from itertools import product

from helper import CROSSING, FREE, all_partings, alone, together
from nocrossing.errors import NoNote
from nocrossing.notes import read, shown

SOME = [
    (0, [], ""),
    (1, [[0]], "0"),
    (2, [[0, 1]], "01"),
    (2, [[0], [1]], "0|1"),
    (4, [[0, 2], [1], [3]], "02|1|3"),
    (4, [[0, 3], [1, 2]], "03|12"),
    (4, [[0, 2], [1, 3]], "02|13"),
    (6, [[0, 3], [1, 4], [2, 5]], "03|14|25"),
    (10, [[0, 9], [1, 8], [2, 7], [3, 6], [4, 5]], "09|18|27|36|45"),
    (10, [[0, 2, 4, 6, 8], [1, 3, 5, 7, 9]], "02468|13579"),
    (10, alone(10), "0|1|2|3|4|5|6|7|8|9"),
    (10, together(10), "0123456789"),
]

# Texts that write no parting, each with what is wrong.
NO_NOTES = [
    ("a stroke alone", "|"),
    ("two strokes alone", "||"),
    ("a stroke at the start", "|0"),
    ("a stroke at the start of a longer one", "|02|1|3"),
    ("a stroke at the end", "0|"),
    ("a stroke at the end of a longer one", "02|1|3|"),
    ("two strokes together", "0||1"),
    ("two strokes together in a longer one", "02||1|3"),
    ("a figure twice in a block", "00"),
    ("a figure twice in a longer block", "0112"),
    ("a figure in two blocks", "01|1"),
    ("a figure in two blocks, another left out", "02|2"),
    ("a block twice", "0|0"),
    ("the first figure left out", "1"),
    ("the first figure left out of a longer one", "1|2"),
    ("a figure within left out", "0|2"),
    ("the last but one left out", "012345679"),
    ("figures that fall", "10"),
    ("figures that fall at the end", "0132"),
    ("a later block that falls", "0|21"),
    ("blocks not in the order of their first points", "1|0"),
    ("later blocks not in the order of their first points", "0|2|1"),
    ("blocks in the order of their last points", "1|02"),
    ("a crossing one with its blocks out of order", "13|02"),
    ("ten figures and one more", "01234567890"),
    ("ten figures and one more block", "0|1|2|3|4|5|6|7|8|9|0"),
    ("a point of two figures", "0|1|2|3|4|5|6|7|8|9|10"),
    ("very many figures", "0123456789" * 100),
    ("very many strokes", "|" * 1000),
    ("a letter", "a"),
    ("a letter behind", "0a"),
    ("a letter within", "0a1"),
    ("a letter as a block", "0|a"),
    ("a minus", "-1"),
    ("a minus ahead of nought", "-0"),
    ("a plus", "+0"),
    ("a low stroke", "0_1"),
    ("a comma", "0,1"),
    ("a full stop", "0.1"),
    ("another stroke", "0/1"),
    ("brackets", "[[0]]"),
    ("a blank alone", " "),
    ("a blank ahead", " 0"),
    ("a blank behind", "0 "),
    ("a blank within", "0 1"),
    ("blanks round a stroke", "0 | 1"),
    ("a line end alone", "\n"),
    ("a line end ahead", "\n0"),
    ("a line end behind", "0\n"),
    ("a line end behind a longer one", "02|1|3\n"),
    ("a line end in the place of a stroke", "0\n1"),
    ("a tab", "0\t"),
    ("a nought sign", "0\0"),
    ("a figure set high", "0\u00b9"),
    ("another script's figures", "\u0660\u0661"),
    ("a wide figure", "\uff10"),
    ("a broken stroke", "0\u00a61"),
]


class ShownTest(unittest.TestCase):
    def test_some(self):
        for points, blocks, text in SOME:
            with self.subTest(text=text):
                told = shown(points, blocks)
                self.assertIs(type(told), str)
                self.assertEqual(told, text)


class ReadTest(unittest.TestCase):
    def test_some(self):
        for points, blocks, text in SOME:
            with self.subTest(text=text):
                told = read(text)
                self.assertIs(type(told), tuple)
                self.assertEqual(told, (points, blocks))
                self.assertEqual([type(each) for each in told], [int, list])

    def test_what_is_shown_is_read(self):
        for points, blocks in FREE + CROSSING:
            with self.subTest(points=points, blocks=blocks):
                self.assertEqual(read(shown(points, blocks)), (points, blocks))

    def test_every_parting_of_few_points(self):
        for points in range(8):
            texts = set()
            for blocks in all_partings(points):
                text = shown(points, blocks)
                texts.add(text)
                self.assertEqual(read(text), (points, blocks))
            self.assertEqual(len(texts), len(all_partings(points)))

    def test_texts_that_write_none(self):
        for why, text in NO_NOTES:
            with self.subTest(why), self.assertRaises(NoNote):
                read(text)

    def test_no_other_short_text_is_read(self):
        written = {shown(points, blocks) for points in range(7) for blocks in all_partings(points)}
        for size in range(7):
            for signs in product("0123| ", repeat=size):
                text = "".join(signs)
                try:
                    points, blocks = read(text)
                except NoNote:
                    self.assertNotIn(text, written)
                else:
                    self.assertIn(text, written)
                    self.assertEqual(shown(points, blocks), text)


class OwnTest(unittest.TestCase):
    def test_what_was_read_may_be_changed(self):
        for points, blocks, text in SOME:
            with self.subTest(text=text):
                told, again = read(text)[1], read(text)[1]
                lists = [told, again] + told + again
                self.assertEqual(len({id(each) for each in lists}), len(lists))
                for block in told:
                    block.append(99)
                told.append([7])
                self.assertEqual(read(text), (points, blocks))


if __name__ == "__main__":
    unittest.main()
