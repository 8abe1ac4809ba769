"""Points 18 (tell) and 19 (fresh): the paper that's written."""

import random
import unittest

from calling import CallCase, ask, ask_last, feed, fresh, index, tell, told, write
from judge import Dice, value, value_answer, value_read

UNSOUND = (
    value("H"), value("homo"), value(""), value("Homo", sub="P"), value("Homo", num=-2), value("Homo", num=10000),
    value("Homo", num=3, e1="ab"), value("Homo", q1=1), value("Homo", e1="ab", q2=1), value("Homo", e2="ab"),
    value("Homo", e1="ab", e2="cd", q2=3), value("Homo", e1="a"), value("Homo", paren=1), value("Homo", year=1758),
    value("Homo", etal=1), value("Homo", authors=("Adams",)), value("Homo", authors=("",), year=1758),
    value("Homo", authors=("Adams",) * 9, year=1758), value("Homo", abbr=-1, e1="ab"), value("Homo", abbr=2, e1="ab"),
)


def line(signs):
    """The call that tells what this text is read as."""
    return tell(value_read(signs))


class TellTest(CallCase):
    def assert_told(self, *pairs):
        """Each pair is a name told and its line, on one object in this order."""
        self.assert_answers(*[(line(signs), told(expected)) for signs, expected in pairs])

    def test_raw_form(self):
        whole = value("Ab", num=2)
        self.assertEqual(tell(whole), [17, 7, 0, 0, 0, 2, 0, 0, 0, 4, 2, 65, 98, 0, 0, 0])
        self.assertEqual(ask(tell(whole), tell(whole)),
                         [[0, 65, 98, 32, 115, 112, 46, 32, 50], [0, 65, 46, 32, 115, 112, 46, 32, 50]])

    def test_first_and_later_times(self):
        self.assert_told(
            ("Homo albus", "Homo albus"),
            ("Homo albus", "H. albus"),
            ("Apis mellifera", "Apis mellifera"),
            ("Homo niger Adams, 1758", "H. niger Adams, 1758"),
            ("Apis sp.", "A. sp."),
            ("Homo sp. 3", "H. sp. 3"),
        )

    def test_all_other_parts_stay(self):
        full = "Homo (Pan) cf. albus subsp. niger (Adams, Brown & Clark, 1758)"
        self.assert_told((full, full), (full, "H." + full[4:]), (full, "H." + full[4:]))
        self.assert_told(("Homo (Pan) sp. 5", "Homo (Pan) sp. 5"), ("Homo (Pan) sp. 5", "H. (Pan) sp. 5"))

    def test_neither_e1_nor_num(self):
        self.assert_told(
            ("Homo", "Homo"),
            ("Homo", "Homo"),
            ("Homo (Pan)", "Homo (Pan)"),
            ("Homo Adams, 1758", "Homo Adams, 1758"),
            ("Homo albus", "H. albus"),
            ("Homo", "Homo"),
            ("Homo sp.", "H. sp."),
        )

    def test_they_count_as_told(self):
        self.assert_told(("Homo", "Homo"), ("Hama", "Hama"), ("Homo ab", "Ho. ab"), ("Hama ab", "Ha. ab"))

    def test_shortest_beginning(self):
        self.assert_told(
            ("Homo ab", "Homo ab"),
            ("Homo ab", "H. ab"),
            ("Hama ab", "Hama ab"),
            ("Homo ab", "Ho. ab"),
            ("Hama ab", "Ha. ab"),
            ("Homa ab", "Homa ab"),
            ("Homo ab", "Homo ab"),
            ("Homa ab", "Homa ab"),
            ("Hama ab", "Ha. ab"),
            ("Homonym ab", "Homonym ab"),
            ("Homonym ab", "Homo. ab"),
            ("Homonyx ab", "Homonyx ab"),
            ("Homonym ab", "Homonym ab"),
            ("Apis ab", "Apis ab"),
            ("Apis ab", "A. ab"),
        )

    def test_head_that_begins_another(self):
        self.assert_told(
            ("Homo ab", "Homo ab"),
            ("Homonym ab", "Homonym ab"),
            ("Homo ab", "Homo ab"),
            ("Homonym ab", "Homo. ab"),
            ("Homonym sp.", "Homo. sp."),
            ("Homo sp.", "Homo sp."),
        )
        self.assert_told(
            ("Homonym ab", "Homonym ab"),
            ("Homonym ab", "H. ab"),
            ("Homo ab", "Homo ab"),
            ("Homo ab", "Homo ab"),
            ("Homonym ab", "Homo. ab"),
        )
        self.assert_told(("Ho ab", "Ho ab"), ("Hom ab", "Hom ab"), ("Ho ab", "Ho ab"), ("Hom ab", "Ho. ab"))

    def test_a_new_head_is_not_shortened(self):
        # No other head begins like it, but it wasn't told before.
        self.assert_told(("Homo ab", "Homo ab"), ("Apis ab", "Apis ab"), ("Ho ab", "Ho ab"))

    def test_equal_heads_count_once(self):
        self.assert_told(*[("Homo ab", "Homo ab")] + [("Homo ab", "H. ab")] * 5)

    def test_only_heads_count(self):
        self.assert_told(
            ("Homo (Hama) ab", "Homo (Hama) ab"),
            ("Homo ab", "H. ab"),
            ("Hama ab", "Hama ab"),
            ("Homo ab", "Ho. ab"),
        )

    def test_shortest_and_longest_heads(self):
        head = "H" + "o" * 39
        other = head[:39] + "a"
        self.assert_told(
            ("Ab cd", "Ab cd"),
            ("Ab cd", "A. cd"),
            (head + " ab", head + " ab"),
            (head + " ab", "H. ab"),
            (head[:39] + " ab", head[:39] + " ab"),
            (head + " ab", head[:39] + ". ab"),
            (other + " ab", other + " ab"),
            (head + " ab", head + " ab"),
            (head[:39] + " ab", head[:39] + " ab"),
        )

    def test_refused_values(self):
        for whole in UNSOUND:
            self.assertEqual(ask(tell(whole), write(whole)), [[-1], [-1]], whole)

    def test_short_heads_are_refused(self):
        for whole in (value("H", abbr=1, e1="ab"), value("Ho", abbr=1, num=0), value("Homo", abbr=1, e1="ab")):
            got = ask(write(whole), tell(value("Homo", e1="ab")), tell(whole), fresh())
            self.assertEqual(got[0][0], 0)
            self.assertEqual(got[2:], [[-1], [1]])

    def test_refused_values_are_not_told(self):
        got = ask(*[tell(whole) for whole in UNSOUND], line("Homo ab"), fresh())
        self.assertEqual(got[-2:], [told("Homo ab"), [1]])
        unsound = [tell(value("Hama", e1="a")), tell(value("Ha", abbr=1, e1="ab"))]
        self.assertEqual(ask_last(line("Homo ab"), *unsound, line("Homo ab")), told("H. ab"))
        self.assertEqual(ask_last(*unsound, line("Hama ab")), told("Hama ab"))

    def test_three_hundred_names(self):
        rows = [line("Homo ab")] * 300 + [line("Homo ab"), line("Apis"), tell(UNSOUND[0]), fresh(), line("Homo ab")]
        got = ask(*rows)
        self.assertEqual(got[0], told("Homo ab"))
        self.assertEqual(got[1:300], [told("H. ab")] * 299)
        self.assertEqual(got[300:], [[-2], [-2], [-1], [300], told("Homo ab")])

    def test_two_hundred_and_ninety_nine_and_refused_ones(self):
        rows = [line("Homo ab")] * 299 + [tell(UNSOUND[1])] * 20 + [line("Hama ab"), line("Homo ab"), fresh()]
        self.assertEqual(ask(*rows)[-3:], [told("Hama ab"), [-2], [300]])

    def test_many_heads(self):
        heads = ["A" + first + second + "a" for first in "bcdfgh" for second in "klmnp"]
        rows = [line(head + " ab") for head in heads + heads]
        expected = [told(head + " ab") for head in heads] + [told(head[:3] + ". ab") for head in heads]
        self.assertEqual(ask(*rows), expected)

    def test_what_is_told_can_be_fed(self):
        dice = Dice(random.Random(50))
        for number in range(20):
            values = [dict(dice.sound_value(), abbr=0) for name in range(25)]
            for whole in values:
                whole["head"] = dice.chance.choice(("Ho", "Homo", "Homa", "Hama", "Apis", "Homonym", "Homoeo"))
            lines = [bytes(answer[1:]) for answer in ask(*[tell(whole) for whole in values])]
            for whole, got in zip(values, ask(*[feed(signs + b"\n") for signs in lines])):
                self.assertEqual(got, [1] + value_answer(whole))


class FreshTest(CallCase):
    def test_raw_form(self):
        self.assertEqual(fresh(), [18, 0, 0])
        self.assertEqual(ask(fresh()), [[0]])

    def test_how_many(self):
        self.assert_answers(
            (fresh(), [0]),
            (line("Homo ab"), told("Homo ab")),
            (fresh(), [1]),
            (fresh(), [0]),
            (line("Homo ab"), told("Homo ab")),
            (line("Homo ab"), told("H. ab")),
            (line("Homo"), told("Homo")),
            (fresh(), [3]),
            (fresh(), [0]),
        )

    def test_none_are_told_afterwards(self):
        self.assert_answers(
            (line("Homo ab"), told("Homo ab")),
            (line("Hama ab"), told("Hama ab")),
            (line("Homo ab"), told("Ho. ab")),
            (fresh(), [3]),
            (line("Homo ab"), told("Homo ab")),
            (line("Homo ab"), told("H. ab")),
            (line("Hama ab"), told("Hama ab")),
            (line("Homo ab"), told("Ho. ab")),
        )

    def test_the_paper_read_stays(self):
        got = ask(feed("Homo\nAp"), line("Homo ab"), fresh(), feed("is\n"), index())
        self.assertEqual(got[3][0], 1)
        self.assertEqual(got[4][0], 2)

    def test_refused_at_three_hundred_and_after_fresh(self):
        rows = [line("Ho ab")] * 301 + [fresh()] + [line("Ho ab")] * 90 + [fresh()]
        got = ask(*rows)
        self.assertEqual([got[300], got[301], got[302], got[303], got[-1]],
                         [[-2], [300], told("Ho ab"), told("H. ab"), [90]])


if __name__ == "__main__":
    unittest.main()
