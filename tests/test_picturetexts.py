"""The texts of pictures, rings and sayings [1.9, 1.10]."""

import unittest

from sheetproofs.errors import BadSaying, BadText
from sheetproofs.picturetexts import (picture_of_text, picture_text, ring_of_text, ring_text,
                                      saying_of_text, saying_text)
from sheetproofs.pictures import Picture, full_picture
from tests.helpers import NO_SEQUENCES, Case, a_random, some_pictures, some_tours
from tests.test_rings import some_rings

SQUARE = full_picture(2, 2)
NO_STRINGS = [thing for thing in NO_SEQUENCES if not isinstance(thing, str)]
NINES = "9" * 300


def spoiled(text):
    """Return texts that differ from a good one by a sign too much, each of them wrong."""
    texts = [" " + text, text + " ", "\n" + text, text + "\n", text + "\n\n", "+" + text, "0" + text]
    for at, sign in enumerate(text):
        if sign == " ":
            texts += [text[:at] + " " + text[at:], text[:at] + "  " + text[at + 1:],
                      text[:at] + "\n" + text[at + 1:], text[:at] + "_" + text[at + 1:],
                      text[:at] + "\t" + text[at + 1:]]
    return texts


class TestPictureText(Case):
    def test_examples(self):
        self.assertEqual(picture_text(SQUARE), "2 2: 00 01 10 11")
        self.assertEqual(picture_text(Picture(3, 1, ())), "3 1:")
        self.assertEqual(picture_text(Picture(5, 4, [(4, 3), (0, 2)])), "5 4: 02 43")

    def test_read_back(self):
        for picture in some_pictures():
            text = picture_text(picture)
            self.assertIs(text.__class__, str)
            self.assertTrue(picture_of_text(text) == picture)

    def test_wrong_texts(self):
        for text in ("", " ", ":", "2", "2 2", "22:", "2 2 :", "2: 2", "2 2:00", "2 2; 00", "2 2: 0 0",
                     "2 2: 000", "2 2: 0", "2 2: 00,01", "2 2: 01 00", "2 2: 00 00", "2 2: 00 01 00",
                     "2 2: 02", "2 2: 20", "2 2: -1", "0 2:", "2 0:", "6 2:", "2 6:", "-2 2:", "2 -2:",
                     "2 2:: 00", "2 2: :", "a 2:", "2 b:", "2 2: ab", "02 2:", "2 02:", "10 2:",
                     NINES + "9 2:", "2 " + "9" * 5000 + ":", "2 2: 00 01 10 11:", "2 2 2: 00", "2  2:",
                     "2 2:  00", " 2 2:", "2 2: ", "2 2:\n", "2 2: 00\n01", "+2 2:", "2 2: 0_"):
            self.refused(BadText, {"row": 0}, picture_of_text, text)
        for text in spoiled("2 2: 00 01 10 11") + spoiled("3 1:"):
            self.refused(BadText, {"row": 0}, picture_of_text, text)

    def test_no_string(self):
        for thing in NO_STRINGS:
            self.refused(BadText, {"row": 0}, picture_of_text, thing)


class TestRingText(Case):
    def test_examples(self):
        self.assertEqual(ring_text((0, 0, 1, 1)), "0 0 1 1")
        self.assertEqual(ring_text([0, 1, 2, 0]), "0 1 2 0")
        self.exactly(ring_of_text(SQUARE, "0 0 1 1"), (0, 0, 1, 1))

    def test_a_ring_is_not_checked_when_it_is_written(self):
        self.assertEqual(ring_text((7, 12, 9)), "7 12 9")
        self.assertEqual(ring_text([3]), "3")

    def test_read_back(self):
        chances = a_random(8)
        for picture in some_pictures():
            for ring in some_rings(picture, chances):
                self.exactly(ring_of_text(picture, ring_text(ring)), ring)
        longest = (0, 0, 1, 1) * 15
        self.exactly(ring_of_text(SQUARE, ring_text(longest)), longest)

    def test_wrong_texts(self):
        for text in ("", " ", "0", "0 0", "0 0 1", "0 0 1 1 0", "0 0 1 2", "2 0 1 1", "0 0 1 -1", "-0 0 1 1",
                     "00 0 1 1", "0 0 1 01", "0  0 1 1", " 0 0 1 1", "0 0 1 1 ", "0 0 1 1\n", "0,0,1,1",
                     "0 0 1 x", "0011", "0 0 1 1" + " 0 0 1 1" * 15, "0 0 1 " + NINES, "0 0 1 " + "9" * 5000,
                     "0 0 1 1.0", "+0 0 1 1", "0 0 1 1 =", "0 0 1 1 = 1"):
            self.refused(BadText, {"row": 0}, ring_of_text, SQUARE, text)
        for text in spoiled("0 0 1 1"):
            self.refused(BadText, {"row": 0}, ring_of_text, SQUARE, text)
        self.refused(BadText, {"row": 0}, ring_of_text, SQUARE.without_pair((0, 1)), "0 0 1 1")

    def test_no_string(self):
        for thing in NO_STRINGS + [(0, 0, 1, 1)]:
            self.refused(BadText, {"row": 0}, ring_of_text, SQUARE, thing)


class TestSayingText(Case):
    def test_examples(self):
        self.assertEqual(saying_text(SQUARE, ((1, -1, -1, 1), 1)), "1 -1 -1 1 = -1")
        self.assertEqual(saying_text(SQUARE, [[0, 0, 0, 0], 0]), "0 0 0 0 = 1")
        self.assertEqual(saying_text(Picture(3, 1, ()), ((), 0)), "= 1")
        self.assertEqual(saying_text(Picture(3, 1, ()), ((), 1)), "= -1")
        self.exactly(saying_of_text(SQUARE, "1 -1 -1 1 = -1"), ((1, -1, -1, 1), 1))
        self.exactly(saying_of_text(Picture(3, 1, ()), "= -1"), ((), 1))
        self.exactly(saying_of_text(Picture(3, 1, ()), "= 1"), ((), 0))

    def test_read_back(self):
        chances = a_random(9)
        for picture in some_pictures():
            for tour in some_tours(picture, chances, 3, 10 ** chances.choice((1, 20, 250))):
                for sign in (0, 1):
                    text = saying_text(picture, [list(tour), sign])
                    self.assertIs(text.__class__, str)
                    self.exactly(saying_of_text(picture, text), (tour, sign))

    def test_numbers_of_300_and_of_301_digits(self):
        great = 10 ** 300 - 1
        saying = ((great, -great, -great, great), 0)
        text = f"{NINES} -{NINES} -{NINES} {NINES} = 1"
        self.assertEqual(saying_text(SQUARE, saying), text)
        self.exactly(saying_of_text(SQUARE, text), saying)
        longer = "1" + "0" * 300
        for digits in (longer, "9" * 5000):
            text = f"{digits} -{digits} -{digits} {digits} = 1"
            self.refused(BadText, {"row": 0}, saying_of_text, SQUARE, text)
        self.refused(BadText, {"row": 0}, saying_of_text, SQUARE, f"0 0 0 -{longer} = 1")

    def test_wrong_texts(self):
        for text in ("", " ", "=", "= ", " =", "= 1", "1", "1 -1 -1 1", "1 -1 -1 1 =", "1 -1 -1 1 = ",
                     "1 -1 -1 1 = 0", "1 -1 -1 1 = +1", "1 -1 -1 1 = 01", "1 -1 -1 1 = -01", "1 -1 -1 1 = 2",
                     "1 -1 -1 1 = 1 1", "1 -1 -1 1 = = 1", "1 -1 -1 1= 1", "1 -1 -1 1 =1", "1 -1 -1 1 == 1",
                     "-0 0 0 0 = 1", "0 0 0 -0 = -1", "00 0 0 0 = 1", "01 -1 -1 1 = 1", "1 -01 -1 1 = 1",
                     "1 - 1 -1 1 = 1", "1 --1 -1 1 = 1", "1 -1 -1 = 1", "1 -1 -1 1 0 = 1", "1 0 0 0 = 1",
                     "1 -1 0 0 = 1", "1 -1 -1 x = 1", "- 0 0 0 = 1", "1 -1 -1 1  = 1", "1 -1 -1 1 =  1",
                     "1 -1 -1 1 = 1\n", "\n1 -1 -1 1 = 1", "1.0 -1 -1 1 = 1", "1 -1 -1 1 = -1 ",
                     "1 -1 -1 1 - -1", "1,-1,-1,1 = 1"):
            self.refused(BadText, {"row": 0}, saying_of_text, SQUARE, text)
        for text in spoiled("1 -1 -1 1 = -1"):
            self.refused(BadText, {"row": 0}, saying_of_text, SQUARE, text)
        bare = Picture(3, 1, ())
        for text in ("", "1", "-1", "=1", " = 1", "= 1 ", "=  1", "0 = 1", "= 0", "= -1\n", "= -0"):
            self.refused(BadText, {"row": 0}, saying_of_text, bare, text)

    def test_no_string(self):
        for thing in NO_STRINGS + [((1, -1, -1, 1), 1)]:
            self.refused(BadText, {"row": 0}, saying_of_text, SQUARE, thing)

    def test_a_saying_is_checked_when_it_is_written(self):
        for saying, what in ((None, "couple"), (((1, 0, 0, 0), 2), "tour"), (((0, 0, 0, 0), True), "sign"),
                             (((0, 0, 0, False), 0), "tour"), (((0, 0, 0, 0), 2), "sign")):
            self.refused(BadSaying, {"what": what}, saying_text, SQUARE, saying)


if __name__ == "__main__":
    unittest.main()
