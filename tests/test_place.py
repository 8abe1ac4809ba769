"""Point 10 (read): the place at which a text that isn't right goes wrong."""

import random
import unittest

from calling import CallCase, ask, ask_last, read
from judge import Dice, expected_answer, is_beginning, is_right, written

BYTES_TRIED = "aefspxAHZ0123 .,()&-'\x00\n/:@[`{\x80\xff"
LONG = "o" * 36
RIGHT_TEXTS = (
    "Ho (Pa) cf. ab-c subsp. de (De Ab, O'B & C-D, 1758)",
    "H. (Pa) aff. ab var. cd E et al., 2999",
    "Ho x ab f. cd (E et al., 1000)",
    "Ho (Pa) sp. 9999",
    "H. sp. 10",
    "Ho (Pa) A & B, 2000",
    "Ho ab A, B, C, D, E, F, G & H, 1999",
    "H" + LONG + "oo. ab",
    "H" + LONG + "ooo ab",
    "H. (P" + LONG + "ooo) ab",
    "Ho " + LONG + "o-ab ab",
    "Ho " + LONG + "oo-a ab",
    "Ho A" + LONG + "o B & C" + LONG + "o D, 1999",
    "Ho A" + LONG + "oo & C" + LONG + "oo, 1999",
    "Ho A, B" + LONG + "oo, C" + LONG + "ooo & D" + LONG + "ooo, 1999",
)


class PlaceTest(CallCase):
    def assert_judged(self, texts):
        texts = [signs for signs in texts if not is_right(signs)]
        for first in range(0, len(texts), 50):
            some = texts[first:first + 50]
            got = ask(*[read(signs) for signs in some])
            for signs, answer in zip(some, got):
                self.assertEqual(answer, expected_answer(signs), signs)

    def test_empty_text(self):
        self.assertEqual(ask_last(read("")), [-1])

    def test_wrong_first_byte(self):
        for byte in range(256):
            expected = [-2] if 65 <= byte <= 90 else [-1]
            self.assertEqual(ask_last(read([byte])), expected)
            self.assertEqual(ask_last(read([byte, 33])), expected)

    def test_beginnings_of_right_texts(self):
        for whole in RIGHT_TEXTS:
            self.assertTrue(is_right(whole), whole)
            for length in range(len(whole)):
                signs = whole[:length]
                self.assertTrue(is_beginning(signs), signs)
                if not is_right(signs):
                    self.assertEqual(ask_last(read(signs)), [-1 - length], signs)

    def test_right_text_with_one_byte_more(self):
        for whole in RIGHT_TEXTS:
            self.assert_judged([whole + byte for byte in BYTES_TRIED])
        for whole in ("Ho sp. 9999", "Ho A, 1999", "Ho ab (A, 1999)"):
            for byte in range(256):
                self.assertEqual(ask_last(read(whole + chr(byte))), [-1 - len(whole)])

    def test_wrong_byte_at_each_part(self):
        for whole in RIGHT_TEXTS:
            for length in range(len(whole)):
                viable = [whole[:length] + byte for byte in BYTES_TRIED if is_beginning(whole[:length] + byte)]
                for byte in BYTES_TRIED:
                    signs = whole[:length] + byte
                    if is_right(signs):
                        self.assertEqual(ask_last(read(signs))[0], 0, signs)
                    else:
                        place = length + 1 if signs in viable else length
                        self.assertEqual(ask_last(read(signs)), [-1 - place], signs)

    def test_what_stands_behind_the_place_does_not_matter(self):
        for signs in ("Homo sapiens.", "Homo sapiens. ab", "Homo sapiens." + "\xff" * 4000):
            self.assertEqual(ask_last(read(signs)), [-1 - 12])

    def test_long_texts(self):
        self.assertEqual(ask_last(read("A" * 4096)), [-1 - 1])
        self.assertEqual(ask_last(read("H" + "o" * 4095)), [-1 - 40])
        self.assertEqual(ask_last(read(" " * 4096)), [-1])

    def test_spoilt_texts_by_chance(self):
        dice = Dice(random.Random(11))
        texts = []
        while len(texts) < 600:
            signs = dice.spoilt(written(dice.sound_value()))
            if len(signs) < 160:
                texts.append(signs)
        self.assert_judged(texts)


class JudgeTest(unittest.TestCase):
    def test_every_beginning_is_seen(self):
        dice = Dice(random.Random(12))
        for number in range(60):
            whole = written(dice.sound_value())
            self.assertTrue(is_right(whole), whole)
            for length in range(len(whole)):
                self.assertTrue(is_beginning(whole[:length]), whole[:length])


if __name__ == "__main__":
    unittest.main()
