"""Point 4 (fold)."""

import itertools
import random
import unittest

from calling import CallCase, ask, ask_last, fold, told

LETTERS = "abcdefghijklmnopqrstuvwxyz"
PAIRS = {"ae": "e", "oe": "e", "ph": "f", "pf": "f", "ch": "c", "th": "t", "rh": "r", "ct": "t"}
PAIRS.update({letter * 2: letter for letter in "bcdfgilmnpqrstxz"})
SINGLES = str.maketrans({"-": None, "j": "i", "y": "i", "v": "u", "k": "c"})


def plain_fold(signs, dice=None):
    """Replaces one pair after another: the first that stands, or any if there are dice."""
    signs = signs.translate(SINGLES)
    while True:
        places = [place for place in range(len(signs) - 1) if signs[place:place + 2] in PAIRS]
        if not places:
            return signs
        place = dice.choice(places) if dice else places[0]
        signs = signs[:place] + PAIRS[signs[place:place + 2]] + signs[place + 2:]


class FoldTest(CallCase):
    def test_ordinary(self):
        cases = {
            "albus": "albus",
            "sylvestris": "siluestris",
            "jamaicensis": "iamaicensis",
            "kolreuteria": "colreuteria",
            "caeruleus": "ceruleus",
            "coeruleus": "ceruleus",
            "phoenicea": "fenicea",
            "pfeifferi": "feiferi",
            "rhombifolia": "rombifolia",
            "novae-angliae": "noueanglie",
            "thapsus": "tapsus",
            "arctica": "artica",
            "punctatus": "puntatus",
        }
        for signs, expected in cases.items():
            with self.subTest(signs=signs):
                self.assertEqual(plain_fold(signs), expected)
                self.assertEqual(ask_last(fold(signs)), told(expected))

    def test_empty(self):
        self.assertEqual(ask_last(fold("")), [0])
        self.assertEqual(ask_last(fold("-")), [0])
        self.assertEqual(ask_last(fold("---")), [0])

    def test_each_letter_and_each_pair(self):
        rows = [fold(letter) for letter in LETTERS]
        self.assertEqual(ask(*rows), [told(plain_fold(letter)) for letter in LETTERS])
        for first in LETTERS:
            rows = [fold(first + second) for second in LETTERS]
            self.assertEqual(ask(*rows), [told(plain_fold(first + second)) for second in LETTERS])

    def test_letters_that_stay_doubled(self):
        for letter in "aehouw":
            self.assertEqual(ask_last(fold(letter * 2)), told(letter * 2))
        self.assertEqual(ask_last(fold("jy")), told("i"))
        self.assertEqual(ask_last(fold("kc")), told("c"))
        self.assertEqual(ask_last(fold("vu")), told("uu"))

    def test_pairs_that_come_about(self):
        cases = {
            "pph": "f",
            "cch": "c",
            "ckh": "c",
            "cth": "t",
            "chth": "t",
            "cctth": "t",
            "aoae": "e",
            "a-e": "e",
            "p-h": "f",
            "l-l": "l",
            "pphf": "f",
            "phph": "f",
            "rhrh": "r",
            "tcht": "t",
            "thct": "t",
            "aaaae": "e",
            "iyji": "i",
            "rrhh": "r",
            "hh": "hh",
            "phh": "fh",
            "chhh": "c",
        }
        for signs, expected in cases.items():
            with self.subTest(signs=signs):
                self.assertEqual(plain_fold(signs), expected)
                self.assertEqual(ask_last(fold(signs)), told(expected))

    def test_any_order_of_replacing(self):
        dice = random.Random(4)
        for length in (3, 5, 8, 13, 21):
            texts = ["".join(dice.choice("aoephfctrk-l") for sign in range(length)) for number in range(60)]
            got = ask(*[fold(signs) for signs in texts])
            self.assertEqual(got, [told(plain_fold(signs, dice)) for signs in texts])

    def test_all_short_texts(self):
        for first in "aephctr":
            texts = ["".join((first, *rest)) for rest in itertools.product("aephctr", repeat=3)]
            got = ask(*[fold(signs) for signs in texts])
            self.assertEqual(got, [told(plain_fold(signs)) for signs in texts])

    def test_longest(self):
        self.assertEqual(ask_last(fold("a" * 4095 + "e")), told("e"))
        self.assertEqual(ask_last(fold("l" * 4096)), told("l"))
        self.assertEqual(ask_last(fold("a" * 4096)), told("a" * 4096))

    def test_refused(self):
        for byte in [byte for byte in range(256) if byte != 45 and not 97 <= byte <= 122]:
            self.assertEqual(ask_last(fold([byte])), [-1])
            self.assertEqual(ask_last(fold([97, byte, 97])), [-1])
            self.assertEqual(ask_last(fold([97, 98, byte])), [-1])


if __name__ == "__main__":
    unittest.main()
