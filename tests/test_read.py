"""Point 10 (read): right texts, each read as its value."""

import random
import unittest

from calling import CallCase, ask, ask_last, read
from judge import FIRST_MARKS, MARKS, SECOND_MARKS, Dice, is_right, value, value_answer, written

AUTHORS = ("Adams", "Brown", "Clark", "De Vries", "Eve-Ann", "O'Hara", "McGee", "Z")


class ReadTest(CallCase):
    def assert_read(self, signs, told):
        self.assertEqual(ask_last(read(signs)), value_answer(told), signs)
        self.assertEqual(written(told), signs)
        self.assertTrue(is_right(signs), signs)

    def assert_wrong(self, signs, place):
        self.assertEqual(ask_last(read(signs)), [-1 - place], signs)
        self.assertFalse(is_right(signs), signs)

    def test_form_of_the_answer(self):
        self.assertEqual(
            ask_last(read("Ab (Cd) x ef f. gh (I & J, 1999)")),
            [0, 0, 3, 6, -1, 1, 0, 1999, 2, 65, 98, 2, 67, 100, 2, 101, 102, 2, 103, 104, 2, 1, 73, 1, 74],
        )
        self.assertEqual(
            ask_last(read("A. sp. 7")),
            [0, 1, 0, 0, 7, 0, 0, 0, 1, 65, 0, 0, 0, 0],
        )

    def test_genus_alone(self):
        self.assert_read("Homo", value("Homo"))
        self.assert_read("Ab", value("Ab"))
        self.assert_read("A" + "b" * 39, value("A" + "b" * 39))
        self.assert_wrong("A", 1)
        self.assert_wrong("A" + "b" * 40, 40)

    def test_genus_with_authors(self):
        self.assert_read("Homo Linnaeus, 1758", value("Homo", authors=("Linnaeus",), year=1758))
        self.assert_read("Homo (Pan) A & B, 1758", value("Homo", sub="Pan", authors=("A", "B"), year=1758))
        self.assert_wrong("Homo (Linnaeus, 1758)", 14)
        self.assert_wrong("Homo (Pan) (Linnaeus, 1758)", 11)

    def test_subgenus(self):
        self.assert_read("Homo (Pan)", value("Homo", sub="Pan"))
        self.assert_read("Homo (Pan) ab", value("Homo", sub="Pan", e1="ab"))
        self.assert_read("H. (Pan) ab", value("H", abbr=1, sub="Pan", e1="ab"))
        self.assert_read("H. (Pan) sp.", value("H", abbr=1, sub="Pan", num=0))
        self.assert_wrong("H. (Pan)", 8)
        self.assert_wrong("Homo (P) ab", 7)
        self.assert_wrong("Homo (pan)", 6)
        self.assert_wrong("Homo (P.) ab", 7)
        for length in (2, 40):
            sub = "S" + "b" * (length - 1)
            self.assert_read("Homo (" + sub + ") ab", value("Homo", sub=sub, e1="ab"))
        self.assert_wrong("Homo (S" + "b" * 40 + ") ab", 46)

    def test_short_heads(self):
        for length in (1, 2, 39):
            head = "H" + "o" * (length - 1)
            self.assert_read(head + ". sapiens", value(head, abbr=1, e1="sapiens"))
            self.assert_read(head + ". sp. 3", value(head, abbr=1, num=3))
        self.assert_wrong("H" + "o" * 39 + ". sapiens", 40)
        self.assert_wrong("H" + "o" * 40 + ". sapiens", 40)
        self.assert_wrong("H.", 2)
        self.assert_wrong("H. ", 3)
        self.assert_wrong("H sapiens", 1)
        self.assert_wrong("H. Linnaeus, 1758", 3)
        self.assert_wrong("H. (Pan) Linnaeus, 1758", 9)
        self.assert_read("H. ab Linnaeus, 1758", value("H", abbr=1, e1="ab", authors=("Linnaeus",), year=1758))

    def test_unnamed(self):
        self.assert_read("Homo sp.", value("Homo", num=0))
        for num in (1, 9, 10, 100, 1000, 9999):
            self.assert_read("Homo sp. " + str(num), value("Homo", num=num))
        self.assert_wrong("Homo sp. 10000", 13)
        self.assert_wrong("Homo sp. 0", 9)
        self.assert_wrong("Homo sp. 01", 9)
        self.assert_wrong("Homo sp. -1", 9)
        self.assert_wrong("Homo sp. ", 9)
        self.assert_wrong("Homo sp.1", 8)
        self.assert_wrong("Homo sp. 1 ", 10)
        self.assert_wrong("Homo sp. ab", 9)
        self.assert_wrong("Homo sp. Linnaeus, 1758", 9)
        self.assert_wrong("Homo ab sp.", 10)
        self.assert_wrong("Homo cf. sp.", 11)
        self.assert_read("Homo sp", value("Homo", e1="sp"))
        self.assert_read("Homo sp sp", value("Homo", e1="sp", e2="sp"))

    def test_marks(self):
        for first in FIRST_MARKS:
            told = value("Homo", q1=first, e1="cf")
            self.assert_read("Homo " + MARKS[first] + "cf", told)
            for second in SECOND_MARKS:
                told = value("Homo", q1=first, e1="xx", q2=second, e2="var")
                self.assert_read("Homo " + MARKS[first] + "xx " + MARKS[second] + "var", told)

    def test_marks_that_are_not_there(self):
        self.assert_wrong("Homo subsp. ab", 10)
        self.assert_wrong("Homo var. ab", 8)
        self.assert_wrong("Homo f. ab", 6)
        self.assert_wrong("Homo ab x cd", 9)
        self.assert_wrong("Homo cf. aff. ab", 12)
        self.assert_wrong("Homo x cf. ab", 9)
        self.assert_wrong("Homo x x ab", 8)
        self.assert_wrong("Homo cf.ab", 8)
        self.assert_wrong("Homo cf.", 8)
        self.assert_wrong("Homo cf. ", 9)
        self.assert_wrong("Homo cf . ab", 8)
        self.assert_wrong("Homo x", 6)
        self.assert_wrong("Homo x ", 7)
        self.assert_wrong("Homo cf. Linnaeus, 1758", 9)
        self.assert_wrong("Homo ab cf. (Linnaeus, 1758)", 12)

    def test_epithets(self):
        for epithet in ("ab", "a-b", "novae-angliae", "a" * 40, "a-" + "b" * 38, "a" * 38 + "-b"):
            self.assert_read("Homo " + epithet, value("Homo", e1=epithet))
            self.assert_read("Homo ab " + epithet, value("Homo", e1="ab", e2=epithet))
            self.assert_read("Homo aff. " + epithet + " A, 1900",
                             value("Homo", q1=2, e1=epithet, authors=("A",), year=1900))
        self.assert_wrong("Homo a", 6)
        self.assert_wrong("Homo a bc", 6)
        self.assert_wrong("Homo -ab", 5)
        self.assert_wrong("Homo ab-", 8)
        self.assert_wrong("Homo ab- cd", 8)
        self.assert_wrong("Homo a--b", 7)
        self.assert_wrong("Homo a-b-c", 8)
        self.assert_wrong("Homo " + "a" * 41, 45)
        self.assert_wrong("Homo " + "a" * 39 + "-b", 44)
        self.assert_wrong("Homo " + "a" * 40 + "-", 45)
        self.assert_wrong("Homo ab cd ef", 11)

    def test_one_to_eight_authors(self):
        texts = {1: "Adams", 2: "Adams & Brown", 3: "Adams, Brown & Clark"}
        for count in range(1, 9):
            told = value("Homo", e1="ab", authors=AUTHORS[:count], year=1758)
            self.assert_read(written(told), told)
            if count in texts:
                self.assertEqual(written(told), "Homo ab " + texts[count] + ", 1758")
            self.assert_read("Homo ab (" + written(told)[8:] + ")", dict(told, paren=1))

    def test_a_ninth_author(self):
        seven = ", ".join("ABCDEFG")
        self.assert_wrong("Homo ab " + seven + ", H & I, 1758", 8 + len(seven))
        self.assert_wrong("Homo ab " + seven + " & H & I, 1758", 8 + len(seven) + 5)
        self.assert_wrong("Homo ab " + seven + " & H, I, 1758", 8 + len(seven) + 6)

    def test_wrongly_joined_authors(self):
        self.assert_wrong("Homo ab A, B, 1758", 14)
        self.assert_wrong("Homo ab A & B & C, 1758", 14)
        self.assert_wrong("Homo ab A & B, C, 1758", 15)
        self.assert_wrong("Homo ab A &B, 1758", 11)
        self.assert_wrong("Homo ab A& B, 1758", 9)
        self.assert_wrong("Homo ab A,B & C, 1758", 10)
        self.assert_wrong("Homo ab A", 9)
        self.assert_wrong("Homo ab A 1758", 10)
        self.assert_wrong("Homo ab A,1758", 10)
        self.assert_wrong("Homo ab , 1758", 8)

    def test_author_texts(self):
        authors = ("A", "Linnaeus", "McGee", "ABC", "De Vries", "O'Hara", "Eve-Ann", "A B-C'D", "A" * 40,
                   "A" + "b" * 39, "A" * 38 + " B", "A" * 38 + "-B", "A" * 38 + "'B", "A" * 39)
        for author in authors:
            told = value("Homo", authors=(author,), year=1900)
            self.assert_read("Homo " + author + ", 1900", told)
            told = value("Homo", authors=(author,), year=1900, etal=1)
            self.assert_read("Homo " + author + " et al., 1900", told)
            told = value("Homo", authors=(author, author, author), year=1900)
            self.assert_read("Homo " + author + ", " + author + " & " + author + ", 1900", told)

    def test_wrong_author_texts(self):
        self.assert_wrong("Homo De vries, 1900", 8)
        self.assert_wrong("Homo O'hara, 1900", 7)
        self.assert_wrong("Homo A-, 1900", 7)
        self.assert_wrong("Homo A , 1900", 7)
        self.assert_wrong("Homo A  B, 1900", 7)
        self.assert_wrong("Homo A-'B, 1900", 7)
        self.assert_wrong("Homo L., 1900", 6)
        self.assert_wrong("Homo A\xe9, 1900", 6)
        self.assert_wrong("Homo " + "A" * 41 + ", 1900", 45)

    def test_signs_behind_long_authors(self):
        # Within the author a blank needs a capital behind it that still fits; before "&" or "et" it needs none.
        for length in (39, 40):
            author = "A" * length
            self.assert_wrong("Homo " + author + "-B, 1900", 5 + length)
            self.assert_wrong("Homo " + author + "'B, 1900", 5 + length)
            self.assert_wrong("Homo " + author + " B, 1900", 6 + length)
            self.assert_wrong("Homo C, " + author + " B, 1900", 9 + length)
            self.assert_wrong("Homo C & " + author + " B, 1900", 9 + length)
            self.assert_wrong("Homo C & " + author + " ", 9 + length)
        self.assert_wrong("Homo C & " + "A" * 38 + " ", 9 + 39)
        self.assert_wrong("Homo C & " + "A" * 38 + " & D, 1900", 9 + 39)

    def test_et_al(self):
        told = value("Homo", e1="ab", authors=("Adams",), etal=1, year=1900)
        self.assert_read("Homo ab Adams et al., 1900", told)
        self.assert_read("Homo ab (Adams et al., 1900)", dict(told, paren=1))
        self.assert_wrong("Homo ab A & B et al., 1900", 14)
        self.assert_wrong("Homo ab A, B et al., 1900", 13)
        self.assert_wrong("Homo ab A et al, 1900", 15)
        self.assert_wrong("Homo ab A et al. 1900", 16)
        self.assert_wrong("Homo ab A et al. & B, 1900", 16)
        self.assert_wrong("Homo ab A et B, 1900", 13)

    def test_brackets(self):
        self.assert_wrong("Homo ab (A, 1900", 16)
        self.assert_wrong("Homo ab A, 1900)", 15)
        self.assert_wrong("Homo ab (A), 1900", 10)
        self.assert_wrong("Homo ab ((A, 1900))", 9)
        self.assert_wrong("Homo ab ()", 9)
        self.assert_wrong("Homo ab (A, 1900) cd", 17)
        self.assert_wrong("Homo ab (cd)", 9)
        told = value("Homo", e1="ab", e2="cd", authors=("A",), paren=1, year=1900)
        self.assert_read("Homo ab cd (A, 1900)", told)

    def test_years(self):
        for year in (1000, 1001, 1999, 2000, 2999):
            self.assert_read("Homo A, " + str(year), value("Homo", authors=("A",), year=year))
        self.assert_wrong("Homo A, 999", 8)
        self.assert_wrong("Homo A, 0999", 8)
        self.assert_wrong("Homo A, 3000", 8)
        self.assert_wrong("Homo A, 190", 11)
        self.assert_wrong("Homo A, 19000", 12)
        self.assert_wrong("Homo A, 19a0", 10)
        self.assert_wrong("Homo ab (A, 190)", 15)
        self.assert_wrong("Homo A, ", 8)

    def test_longest_right_text(self):
        told = value("H" + "o" * 39, sub="P" + "a" * 39, q1=2, e1="b" * 40, q2=4, e2="c" * 40, paren=1,
                     authors=("A" * 40,) * 8, year=2999)
        self.assertEqual(len(written(told)), 521)
        self.assert_read(written(told), told)
        self.assert_wrong(written(told) + ")", 521)
        self.assert_wrong(written(told) + "a" * 3000, 521)

    def test_lists_are_not_asked(self):
        self.assertEqual(ask(read("Homo ab"), read("Homo ab"))[1], value_answer(value("Homo", e1="ab")))

    def test_values_by_chance(self):
        dice = Dice(random.Random(10))
        for number in range(1500):
            told = dice.sound_value()
            self.assert_read(written(told), told)


if __name__ == "__main__":
    unittest.main()
