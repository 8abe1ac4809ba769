"""Point 11 (write): sound values are written, others are refused."""

import random
import unittest

from calling import FAR, NUMBERS, CallCase, ask, ask_last, read, told, write
from judge import FIRST_MARKS, MARKS, SECOND_MARKS, Dice, is_sound, value, value_answer, written

EIGHT = ("Adams", "Brown", "Clark", "De Vries", "Eve-Ann", "O'Hara", "McGee", "Z")
# All parts are there, and every part with it alone.
FULL = value("Homo", sub="Pan", q1=1, e1="albus", q2=4, e2="niger", paren=1, authors=("Adams",), year=1758)
PLAIN = value("Homo", e1="albus")
UNNAMED = value("Homo", num=7)
BARE = value("Homo")

WRITTEN = (
    (BARE, "Homo"),
    (PLAIN, "Homo albus"),
    (value("Homo", sub="Pan"), "Homo (Pan)"),
    (value("Homo", sub="Pan", e1="albus"), "Homo (Pan) albus"),
    (value("H", abbr=1, e1="albus"), "H. albus"),
    (value("Hom", abbr=1, sub="Pan", e1="albus"), "Hom. (Pan) albus"),
    (value("Homo", num=0), "Homo sp."),
    (value("Homo", num=1), "Homo sp. 1"),
    (value("Homo", num=10), "Homo sp. 10"),
    (value("Homo", num=9999), "Homo sp. 9999"),
    (value("Homo", sub="Pan", num=305), "Homo (Pan) sp. 305"),
    (value("H", abbr=1, num=0), "H. sp."),
    (value("H", abbr=1, sub="Pan", num=20), "H. (Pan) sp. 20"),
    (value("Homo", e1="albus", e2="niger"), "Homo albus niger"),
    (value("Homo", e1="novae-angliae", e2="a-b"), "Homo novae-angliae a-b"),
    (value("Homo", authors=("Adams",), year=1758), "Homo Adams, 1758"),
    (value("Homo", sub="Pan", authors=("Adams",), year=1758), "Homo (Pan) Adams, 1758"),
    (value("Homo", e1="albus", authors=("Adams",), year=1758), "Homo albus Adams, 1758"),
    (value("Homo", e1="albus", paren=1, authors=("Adams",), year=1758), "Homo albus (Adams, 1758)"),
    (value("H", abbr=1, e1="albus", paren=1, authors=("Adams",), year=1758), "H. albus (Adams, 1758)"),
    (value("Homo", e1="albus", etal=1, authors=("Adams",), year=1758), "Homo albus Adams et al., 1758"),
    (value("Homo", e1="albus", paren=1, etal=1, authors=("Adams",), year=1758), "Homo albus (Adams et al., 1758)"),
    (value("Homo", authors=("Adams",), etal=1, year=1758), "Homo Adams et al., 1758"),
    (value("Homo", authors=EIGHT[:2], year=1000), "Homo Adams & Brown, 1000"),
    (value("Homo", authors=EIGHT[:3], year=2999), "Homo Adams, Brown & Clark, 2999"),
    (value("Homo", e1="albus", e2="niger", paren=1, authors=EIGHT[:4], year=1758),
     "Homo albus niger (Adams, Brown, Clark & De Vries, 1758)"),
    (value("Homo", authors=EIGHT, year=1758),
     "Homo Adams, Brown, Clark, De Vries, Eve-Ann, O'Hara, McGee & Z, 1758"),
    (FULL, "Homo (Pan) cf. albus subsp. niger (Adams, 1758)"),
)


class WriteTest(CallCase):
    def assert_sound(self, whole):
        self.assertEqual(ask(write(whole), read(written(whole))), [told(written(whole)), value_answer(whole)])
        self.assertTrue(is_sound(whole), whole)

    def assert_unsound(self, whole, **others):
        whole = dict(whole, **others)
        self.assertEqual(ask_last(write(whole)), [-1], whole)
        self.assertFalse(is_sound(whole), whole)

    def test_raw_form(self):
        whole = value("Ab", sub="Cd", q1=3, e1="ef", q2=6, e2="gh", paren=1, authors=("I", "J"), year=1999)
        self.assertEqual(write(whole), [10, 7, 0, 3, 6, -1, 1, 0, 1999, 6, 2, 65, 98, 2, 67, 100, 2, 101, 102,
                                        2, 103, 104, 1, 73, 1, 74])
        self.assertEqual(ask_last(write(whole)), told("Ab (Cd) x ef f. gh (I & J, 1999)"))

    def test_every_part(self):
        for whole, signs in WRITTEN:
            with self.subTest(signs=signs):
                self.assertEqual(ask_last(write(whole)), told(signs))
                self.assert_sound(whole)

    def test_every_mark(self):
        for first in FIRST_MARKS:
            self.assertEqual(ask_last(write(value("Homo", q1=first, e1="albus"))), told("Homo " + MARKS[first] + "albus"))
            for second in SECOND_MARKS:
                whole = value("Homo", q1=first, e1="albus", q2=second, e2="niger")
                signs = "Homo " + MARKS[first] + "albus " + MARKS[second] + "niger"
                self.assertEqual(ask_last(write(whole)), told(signs))

    def test_longest(self):
        whole = value("H" + "o" * 39, sub="P" + "a" * 39, q1=2, e1="b" * 40, q2=4, e2="c" * 40, paren=1,
                      authors=("A" * 40,) * 8, year=2999)
        self.assertEqual(len(ask_last(write(whole))), 1 + 521)
        self.assert_sound(whole)

    def test_numbers_a_step_out(self):
        for part, wrong in (("abbr", (-1, 2)), ("q1", (-1, 4, 5, 6, 7)), ("q2", (-1, 3, 7)), ("paren", (-1, 2)),
                            ("etal", (-1, 2)), ("year", (999, 3000))):
            for number in wrong:
                self.assert_unsound(dict(FULL, head="Ho"), **{part: number})
        for number in (-2, 10000):
            self.assert_unsound(BARE, num=number)
            self.assert_unsound(value("Ho", abbr=1, e1="albus"), num=number)
            self.assert_unsound(FULL, num=number)

    def test_numbers_far_out(self):
        for part in NUMBERS:
            for number in (-2147483648, 2147483647):
                for whole in (FULL, PLAIN, UNNAMED, BARE, value("Ho", abbr=1, num=0)):
                    self.assert_unsound(whole, **{part: number})

    def test_num_stands_alone(self):
        for num in (0, 1, 9999):
            self.assert_sound(value("Homo", sub="Pan", num=num))
            self.assert_unsound(PLAIN, num=num)
            self.assert_unsound(BARE, num=num, authors=("Adams",), year=1758)
            self.assert_unsound(BARE, num=num, e1="albus", authors=("Adams",), year=1758)
            self.assert_unsound(BARE, num=num, e2="albus")

    def test_short_heads(self):
        for length in (1, 2, 39):
            head = "H" + "o" * (length - 1)
            self.assert_sound(value(head, abbr=1, e1="albus"))
            self.assert_sound(value(head, abbr=1, num=0))
        for head in ("", "H" + "o" * 39, "H" + "o" * 40, "h", "ho", "HO", "H.", "Ho ", " Ho", "Ho-o", "H\xf6"):
            self.assert_unsound(value(head, abbr=1, e1="albus"))
            self.assert_unsound(value(head, abbr=1, num=0))

    def test_short_heads_need_e1_or_num(self):
        for head in ("H", "Ho"):
            self.assert_unsound(value(head, abbr=1))
            self.assert_unsound(value(head, abbr=1, sub="Pan"))
            self.assert_unsound(value(head, abbr=1, authors=("Adams",), year=1758))
            self.assert_unsound(value(head, abbr=1, num=-2))

    def test_whole_heads_and_subs(self):
        for length in (2, 3, 39, 40):
            self.assert_sound(value("H" + "o" * (length - 1)))
            self.assert_sound(value("H" + "o" * (length - 1), e1="albus"))
            self.assert_sound(value("Homo", sub="P" + "a" * (length - 1)))
        for signs in ("H", "H" + "o" * 40, "ho", "homo", "HO", "HoMo", "Ho.", "Ho o", "Ho-o", "Ho2", "H\xf6", "@a", "[a",
                      "A`", "A{", "Ho\n", "\x00", "H" * 4096):
            self.assert_unsound(value(signs))
            self.assert_unsound(value(signs, e1="albus"))
            self.assert_unsound(value("Homo", sub=signs))
            self.assert_unsound(value("H", abbr=1, sub=signs, e1="albus"))
        self.assert_unsound(value(""))
        self.assert_unsound(value("", e1="albus"))

    def test_epithets(self):
        for signs in ("ab", "a-b", "a" * 40, "a-" + "b" * 38, "a" * 38 + "-b"):
            self.assert_sound(value("Homo", e1=signs))
            self.assert_sound(value("Homo", e1="albus", e2=signs))
        for signs in ("a", "-", "a" * 41, "-ab", "ab-", "a-b-c", "a--b", "Ab", "aB", "a b", "ab.", "a'b", "a\xe9", "`a", "a{",
                      "\x00\x00", "ab\n", "a" * 4096):
            self.assert_unsound(value("Homo", e1=signs))
            self.assert_unsound(value("Homo", e1="albus", e2=signs))

    def test_e2_needs_e1(self):
        self.assert_unsound(value("Homo", e2="niger"))
        self.assert_unsound(value("Homo", q2=4, e2="niger"))
        self.assert_unsound(value("Homo", e2="niger", authors=("Adams",), year=1758))

    def test_marks_need_their_epithets(self):
        for mark in (1, 2, 3):
            self.assert_unsound(BARE, q1=mark)
            self.assert_unsound(UNNAMED, q1=mark)
            self.assert_unsound(value("Homo", e2="niger"), q1=mark)
        for mark in (1, 2, 4, 5, 6):
            self.assert_unsound(BARE, q2=mark)
            self.assert_unsound(PLAIN, q2=mark)
            self.assert_unsound(UNNAMED, q2=mark)

    def test_how_many_authors(self):
        for count in range(1, 9):
            self.assert_sound(value("Homo", authors=EIGHT[:count], year=1758))
        for count in (9, 10, 16):
            self.assert_unsound(BARE, authors=("Adams",) * count, year=1758)
            self.assert_unsound(PLAIN, authors=("Adams",) * count, year=1758)

    def test_author_texts(self):
        right = ("A", "AB", "Ab", "De Vries", "O'Hara", "Eve-Ann", "A B-C'D", "McGee", "A" * 40, "A" + "b" * 39,
                 "A" * 38 + " B", "A" * 38 + "-B", "A" * 38 + "'B")
        wrong = ("", "A" * 41, "A" + "b" * 40, "A" * 39 + " B", "a", "adams", "Adams ", "Adams-", "Adams'", " Adams",
                 "-Adams", "'Adams", "De vries", "O'hara", "Eve-ann", "A  B", "A -B", "A-'B", "A.", "A,", "A, B", "A & B",
                 "A&B", "A1", "1", " ", "-", "'", "\xc4", "A\xe4", "A\n", "@", "[", "A@", "A[", "A`", "A{", "A\x00", "A" * 4096)
        for signs in right:
            for authors in ((signs,), (signs, "Brown"), ("Adams", signs), ("Adams", signs, "Clark")):
                self.assert_sound(value("Homo", authors=authors, year=1758))
        for signs in wrong:
            for authors in ((signs,), (signs, "Brown"), ("Adams", signs), ("Adams", signs, "Clark"), EIGHT[:7] + (signs,)):
                self.assert_unsound(BARE, authors=authors, year=1758)
            self.assert_unsound(BARE, authors=(signs,), etal=1, year=1758)

    def test_no_authors(self):
        for whole in (BARE, PLAIN, UNNAMED):
            self.assert_sound(whole)
            self.assert_unsound(whole, paren=1)
            self.assert_unsound(whole, etal=1)
            self.assert_unsound(whole, year=1)
            self.assert_unsound(whole, year=1758)
            self.assert_unsound(whole, paren=1, year=1758)
            self.assert_unsound(whole, etal=1, year=1758)

    def test_etal_has_one_author(self):
        self.assert_sound(value("Homo", e1="albus", etal=1, authors=EIGHT[:1], year=1758))
        for count in range(2, 9):
            self.assert_unsound(PLAIN, etal=1, authors=EIGHT[:count], year=1758)

    def test_paren_needs_e1(self):
        self.assert_sound(dict(PLAIN, paren=1, authors=("Adams",), year=1758))
        self.assert_unsound(BARE, paren=1, authors=("Adams",), year=1758)
        self.assert_unsound(value("Homo", sub="Pan"), paren=1, authors=("Adams",), year=1758)

    def test_years(self):
        for year in (1000, 1001, 1999, 2000, 2999):
            self.assert_sound(dict(PLAIN, authors=("Adams",), year=year))
        for year in (-1758, 0, 1, 999, 3000, 9999, 10000, 17580):
            self.assert_unsound(PLAIN, authors=("Adams",), year=year)
            self.assert_unsound(PLAIN, authors=("Adams",), etal=1, year=year)
        for year in FAR:
            self.assert_unsound(PLAIN, authors=("Adams",), year=year)

    def test_lists_are_not_asked(self):
        self.assert_answers((write(PLAIN), told("Homo albus")), (write(PLAIN), told("Homo albus")))

    def test_values_by_chance(self):
        dice = Dice(random.Random(20))
        for number in range(600):
            self.assert_sound(dice.sound_value())

    def test_spoilt_values_by_chance(self):
        dice = Dice(random.Random(21))
        unsound = 0
        for number in range(4000):
            whole = dice.spoilt_value(dice.sound_value())
            expected = told(written(whole)) if is_sound(whole) else [-1]
            self.assertEqual(ask_last(write(whole)), expected, whole)
            unsound += expected == [-1]
        self.assertGreater(unsound, 1500)
        self.assertLess(unsound, 3900)


if __name__ == "__main__":
    unittest.main()
