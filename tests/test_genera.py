"""Points 1 (genus), 7 (family), 8 (families) and 9 (turn)."""

import itertools
import unittest

from calling import FAR, CallCase, ask, ask_last, families, family, genus, told, turn

LETTERS = "abcdefghijklmnopqrstuvwxyz"
ENDINGS = ("oidea", "idae", "inae", "ini", "ina")


def many_genera(count):
    pairs = itertools.product(LETTERS, repeat=2)
    return [genus("G" + one + other) for one, other in itertools.islice(pairs, count)]


class GenusTest(CallCase):
    def test_numbers_in_order(self):
        self.assert_answers(
            (genus("Homo", 0, 3), [0]),
            (genus("Apis", 1, 2), [1]),
            (genus("Allium", 2, 6), [2]),
        )

    def test_lengths_of_text(self):
        for length, expected in ((1, [-1]), (2, [0]), (40, [0]), (41, [-1]), (4096, [-1])):
            with self.subTest(length=length):
                self.assertEqual(ask_last(genus("A" + "b" * (length - 1))), expected)
        self.assertEqual(ask_last(genus("")), [-1])

    def test_all_capitals_and_small_letters(self):
        self.assertEqual(ask_last(genus("A" + LETTERS)), [0])
        for capital in LETTERS.upper():
            self.assertEqual(ask_last(genus(capital + "az")), [0])

    def test_wrong_texts(self):
        wrong = ("homo", "HOmo", "HomO", "Ho mo", "Homo ", " Homo", "Ho-mo", "Homo.", "H2", "Ho\n", "H\xe4", "H`", "H{",
                 "@o", "[o", "\x00o", "\xffo")
        for signs in wrong:
            with self.subTest(signs=signs):
                self.assertEqual(ask_last(genus(signs)), [-1])

    def test_genders(self):
        for gender in (0, 1, 2):
            self.assertEqual(ask_last(genus("Homo", gender)), [0])
        for gender in (3, *FAR):
            self.assertEqual(ask_last(genus("Homo", gender)), [-2])

    def test_stems(self):
        long = "A" + "b" * 39
        cases = [("Homo", stem, [0]) for stem in (1, 2, 3, 4)]
        cases += [("Homo", stem, [-3]) for stem in (0, 5, 35, 36, *FAR)]
        cases += [(long, stem, [0]) for stem in (1, 34, 35)]
        cases += [(long, stem, [-3]) for stem in (0, 36, 40, 41, *FAR)]
        cases += [(long[:35], 35, [0]), (long[:35], 36, [-3]), (long[:34], 34, [0]), (long[:34], 35, [-3])]
        for signs, stem, expected in cases:
            with self.subTest(signs=signs, stem=stem):
                self.assertEqual(ask_last(genus(signs, 0, stem)), expected)

    def test_same_text_again(self):
        self.assert_answers(
            (genus("Homo", 0, 3), [0]),
            (genus("Homo", 1, 2), [-4]),
            (genus("Homo", 0, 3), [-4]),
            (genus("Hom", 0, 3), [1]),
        )

    def test_two_hundred_and_one_more(self):
        got = ask(*many_genera(201), genus("Gaa"), genus("G"), genus("Gaa", 3), genus("Gaa", 0, 9), family(200, 0),
                  family(199, 4))
        self.assertEqual(got[:200], [[number] for number in range(200)])
        self.assertEqual(got[200:206], [[-5], [-4], [-1], [-2], [-3], [-1]])
        self.assertEqual(got[206], told("Gina"))

    def test_order_of_refusals(self):
        homo = genus("Homo")
        self.assertEqual(ask_last(genus("homo", 3, 0)), [-1])
        self.assertEqual(ask_last(genus("Homo", 3, 0)), [-2])
        self.assertEqual(ask_last(homo, genus("Homo", 3, 0)), [-2])
        self.assertEqual(ask_last(homo, genus("Homo", 0, 0)), [-3])

    def test_refused_genus_takes_no_number(self):
        self.assert_answers(
            (genus("homo"), [-1]),
            (genus("Homo", 3), [-2]),
            (genus("Homo", 0, 0), [-3]),
            (family(0, 0), [-1]),
            (genus("Homo", 0, 3), [0]),
            (genus("Homo", 0, 2), [-4]),
            (family(0, 1), told("Homidae")),
            (family(1, 1), [-1]),
        )


class FamilyTest(CallCase):
    def test_all_ranks(self):
        for rank, ending in enumerate(ENDINGS):
            self.assertEqual(ask_last(genus("Apis", 1, 2), family(0, rank)), told("Ap" + ending))

    def test_stems(self):
        long = "A" + "b" * 39
        self.assert_answers(
            (genus(long, 0, 35), [0]),
            (genus("Homo", 0, 1), [1]),
            (genus("Apis", 0, 4), [2]),
            (family(0, 0), told(long[:35] + "oidea")),
            (family(1, 3), told("Hini")),
            (family(2, 2), told("Apisinae")),
        )

    def test_refusals(self):
        homo = genus("Homo")
        for number in (1, *FAR):
            self.assertEqual(ask_last(homo, family(number, 0)), [-1])
            self.assertEqual(ask_last(homo, family(number, 5)), [-1])
        for rank in (5, *FAR):
            self.assertEqual(ask_last(homo, family(0, rank)), [-2])
        self.assertEqual(ask_last(family(0, 0)), [-1])


class FamiliesTest(CallCase):
    def test_none(self):
        self.assertEqual(ask_last(families("Homidae")), [0])
        for signs in ("", "Homida", "Homidaee", "homidae", "Hom", "idae", "Homidae\x00", "\xff" * 4096):
            with self.subTest(signs=signs):
                self.assertEqual(ask_last(genus("Homo", 0, 3), families(signs)), [0])

    def test_each_rank(self):
        for rank, ending in enumerate(ENDINGS):
            self.assertEqual(ask_last(genus("Homo", 0, 3), families("Hom" + ending)), [1, 0, rank])

    def test_several_genera_by_number(self):
        self.assert_answers(
            (genus("Homo", 0, 3), [0]),
            (genus("Apis", 0, 2), [1]),
            (genus("Homa", 0, 3), [2]),
            (genus("Hom", 0, 3), [3]),
            (genus("Homin", 0, 5), [4]),
            (families("Homidae"), [3, 0, 1, 2, 1, 3, 1]),
            (families("Apina"), [1, 1, 4]),
        )

    def test_stem_that_looks_like_an_ending(self):
        self.assert_answers(
            (genus("Abin", 0, 4), [0]),
            (genus("Ab", 0, 2), [1]),
            (families("Abinina"), [1, 0, 4]),
            (families("Abina"), [1, 1, 4]),
            (families("Abinae"), [1, 1, 2]),
        )

    def test_every_pair_of_a_full_list(self):
        got = ask(*many_genera(200), families("Ginae"))
        self.assertEqual(got[-1], [200] + [number for genus_number in range(200) for number in (genus_number, 2)])


class TurnTest(CallCase):
    def test_gender_before(self):
        self.assert_answers(
            (genus("Homo", 0), [0]),
            (genus("Apis", 1), [1]),
            (turn(0, 2), [0]),
            (turn(0, 1), [2]),
            (turn(0, 1), [1]),
            (turn(1, 0), [1]),
            (turn(0, 0), [1]),
            (turn(1, 0), [0]),
        )

    def test_text_and_stem_stay(self):
        self.assert_answers(
            (genus("Homo", 0, 3), [0]),
            (turn(0, 2), [0]),
            (genus("Homo", 2, 3), [-4]),
            (family(0, 1), told("Homidae")),
        )

    def test_refusals_change_nothing(self):
        for number in (1, *FAR):
            self.assertEqual(ask_last(genus("Homo"), turn(number, 0)), [-1])
            self.assertEqual(ask_last(genus("Homo"), turn(number, 3)), [-1])
        for gender in (3, *FAR):
            self.assertEqual(ask(genus("Homo", 1), turn(0, gender), turn(0, 0)), [[0], [-2], [1]])
        self.assertEqual(ask_last(turn(0, 0)), [-1])


if __name__ == "__main__":
    unittest.main()
