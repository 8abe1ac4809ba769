"""Points 15 (feed) and 16 (last): the paper that's read."""

import random
import unittest

from calling import CallCase, ask, ask_last, entries, feed, index, last, outcomes
from judge import value_answer, value_read

NOT_MEANT = [-1001]
MEANT_TWICE = [-1002]
FULL = [-1003]
PAPER = "Homo albus\nH. niger Adams, 1758\n\nApis (Homo) sp. 3\nA. mellifera\nHomo Albus\nZ. sp.\nHoma\nH. albus\nHoma. ab\n"


def taken(signs):
    """The outcome of a line that is taken as it stands, or as this whole name."""
    return value_answer(value_read(signs))


PAPER_OUTCOMES = (
    taken("Homo albus"), taken("Homo niger Adams, 1758"), [-1], taken("Apis (Homo) sp. 3"), taken("Apis mellifera"),
    [-11], NOT_MEANT, taken("Homa"), MEANT_TWICE, NOT_MEANT,
)


class FeedTest(CallCase):
    def assert_fed(self, signs, *expected):
        self.assertEqual(ask_last(feed(signs)), outcomes(*expected), signs)

    def test_raw_form(self):
        self.assertEqual(feed("Ab\n"), [14, 0, 1, 3, 65, 98, 10])
        self.assertEqual(ask_last(feed("Ab\nA. cd\nA\n")),
                         [3, 0, 0, 0, 0, -1, 0, 0, 0, 2, 65, 98, 0, 0, 0, 0,
                          0, 0, 0, 0, -1, 0, 0, 0, 2, 65, 98, 0, 2, 99, 100, 0, 0, -2])

    def test_no_bytes(self):
        self.assert_answers(
            (feed(""), [0]),
            (feed("Homo"), [0]),
            (feed(""), [0]),
            (feed("\n"), outcomes(taken("Homo"))),
            (feed(""), [0]),
        )

    def test_several_lines(self):
        self.assert_fed(PAPER, *PAPER_OUTCOMES)

    def test_byte_by_byte(self):
        got = ask(*[feed(sign) for sign in PAPER])
        ended = [answer for answer, sign in zip(got, PAPER) if sign == "\n"]
        self.assertEqual(ended, [outcomes(expected) for expected in PAPER_OUTCOMES])
        self.assertTrue(all(answer == [0] for answer, sign in zip(got, PAPER) if sign != "\n"))

    def test_cut_anywhere(self):
        chance = random.Random(30)
        for number in range(40):
            cuts = sorted(chance.choices(range(len(PAPER) + 1), k=chance.randint(1, 12)))
            parts = [PAPER[start:end] for start, end in zip([0] + cuts, cuts + [len(PAPER)])]
            got = ask(*[feed(part) for part in parts])
            self.assertEqual([answer[0] for answer in got], [part.count("\n") for part in parts])
            self.assertEqual([number for answer in got for number in answer[1:]], outcomes(*PAPER_OUTCOMES)[1:])

    def test_unfinished_line(self):
        self.assert_answers(
            (feed("Homo albus\nHo"), outcomes(taken("Homo albus"))),
            (feed("mo ni"), outcomes()),
            (feed("ger\nH"), outcomes(taken("Homo niger"))),
            (feed(". sp.\n"), outcomes(taken("Homo sp."))),
        )

    def test_empty_lines(self):
        self.assert_fed("\n", [-1])
        self.assert_fed("\n\n\n", [-1], [-1], [-1])
        self.assert_fed("Homo\n\nHomo\n", taken("Homo"), [-1], taken("Homo"))

    def test_wrong_lines(self):
        for line, place in (("Homo ", 5), (" Homo", 0), ("Homo\r", 4), ("Homo albus.", 10), ("\x00", 0), ("\xff", 0),
                            ("H.", 2), ("H. Adams, 1758", 3), ("H" * 4000, 1), ("Homo\x0balbus", 4), ("Homo\x0c", 4)):
            self.assert_fed(line + "\n", [-1 - place])

    def test_a_line_longer_than_one_text(self):
        self.assert_answers(
            (feed("H" + "o" * 4095), [0]),
            (feed("o" * 4096), [0]),
            (feed("\nHomo\n"), outcomes([-41], taken("Homo"))),
        )

    def test_values_are_taken_whole(self):
        line = "Homo (Pan) cf. albus subsp. niger (Adams, Brown & Clark, 1758)"
        self.assert_fed(line + "\nH" + line[3:] + "\n" + "H." + line[4:] + "\n",
                        taken(line), taken("H" + line[3:]), [-1002])
        self.assert_fed(line + "\nH." + line[4:] + "\n", taken(line), taken(line))
        self.assert_fed("Homo\nHom. (Pan) sp. 9999\n", taken("Homo"), taken("Homo (Pan) sp. 9999"))

    def test_short_head_that_means_none(self):
        self.assert_fed("H. albus\n", NOT_MEANT)
        self.assert_fed("Apis\nH. albus\n", taken("Apis"), NOT_MEANT)
        self.assert_fed("Homo\nHa. albus\n", taken("Homo"), NOT_MEANT)
        self.assert_fed("Homo\nHomoo. albus\n", taken("Homo"), NOT_MEANT)
        self.assert_fed("Homo albus.\nH. albus\n", [-11], NOT_MEANT)
        self.assert_fed("H. albus\nH. albus\nHomo\nH. albus\n", NOT_MEANT, NOT_MEANT, taken("Homo"), taken("Homo albus"))

    def test_only_heads_are_meant(self):
        self.assert_fed("Homo (Pan) albus\nP. albus\n", taken("Homo (Pan) albus"), NOT_MEANT)
        self.assert_fed("Homo (Hama)\nH. albus\n", taken("Homo (Hama)"), taken("Homo albus"))
        self.assert_fed("Homo Hugo, 1900\nHu. albus\n", taken("Homo Hugo, 1900"), NOT_MEANT)

    def test_short_head_that_is_the_head_itself(self):
        self.assert_fed("Homo\nHomo. albus\n", taken("Homo"), NOT_MEANT)
        self.assert_fed("Homo\nHomonym\nHomo. albus\n", taken("Homo"), taken("Homonym"), taken("Homonym albus"))
        self.assert_fed("Homonym\nHomo\nHom. albus\n", taken("Homonym"), taken("Homo"), MEANT_TWICE)
        self.assert_fed("Ab\nA. cd\nAb. cd\n", taken("Ab"), taken("Ab cd"), NOT_MEANT)

    def test_short_head_that_means_two(self):
        self.assert_fed("Homo\nHama\nH. albus\nHo. albus\nHam. albus\n", taken("Homo"), taken("Hama"), MEANT_TWICE,
                        taken("Homo albus"), taken("Hama albus"))
        self.assert_fed("Homo\nHama\nHuma\nH. sp.\n", taken("Homo"), taken("Hama"), taken("Huma"), MEANT_TWICE)

    def test_equal_heads_count_once(self):
        self.assert_fed("Homo\nHomo albus\nHomo sp. 1\nH. niger\nH. niger\n", taken("Homo"), taken("Homo albus"),
                        taken("Homo sp. 1"), taken("Homo niger"), taken("Homo niger"))

    def test_longest_heads(self):
        head = "H" + "o" * 39
        self.assert_fed(head + "\n" + head[:39] + ". ab\n" + head + ". ab\n", taken(head), taken(head + " ab"), [-41])

    def test_refused_lines_are_counted(self):
        self.assert_answers(
            (feed("\nhomo\nHomo\nZ. sp.\nHama\nH. sp.\nHo. sp.\n"),
             outcomes([-1], [-1], taken("Homo"), NOT_MEANT, taken("Hama"), MEANT_TWICE, taken("Homo sp."))),
            (index(), entries(("Hama", [5]), ("Homo", [3]), ("Homo sp.", [7]))),
        )

    def test_three_hundred_names(self):
        self.assert_answers(
            (feed("Homo\n" * 299 + "Hama\nHomo\nwrong\n\nH. sp.\nZ. sp.\nHo. sp.\n"),
             outcomes(*[taken("Homo")] * 299, taken("Hama"), *[FULL] * 6)),
            (feed("Homo"), [0]),
            (last(), outcomes(FULL)),
            (feed("Homo\n"), outcomes(taken("Homo"))),
        )

    def test_three_hundred_names_among_refused_lines(self):
        self.assert_fed("Homo\nx\nZ. ab\n" * 299 + "H. ab\nH. ab\n",
                        *[taken("Homo"), [-1], NOT_MEANT] * 299, taken("Homo ab"), FULL)

    def test_refusals_come_before_short_heads(self):
        self.assert_fed("Z.\nZ. ab.\nZ. Ab\n", [-3], [-6], [-4])


class LastTest(CallCase):
    def test_raw_form(self):
        self.assertEqual(last(), [15, 0, 0])
        self.assertEqual(ask(last()), [[0]])
        self.assertEqual(ask_last(feed("A"), last()), [1, -2])

    def test_unfinished_line(self):
        self.assert_answers(
            (feed("Homo\nH. albus"), outcomes(taken("Homo"))),
            (last(), outcomes(taken("Homo albus"))),
            (last(), outcomes()),
        )

    def test_each_outcome(self):
        self.assertEqual(ask_last(feed("Homo\nHomo"), last()), outcomes(taken("Homo")))
        self.assertEqual(ask_last(feed("Homo\nHomo "), last()), outcomes([-6]))
        self.assertEqual(ask_last(feed("Homo\nZ. ab"), last()), outcomes(NOT_MEANT))
        self.assertEqual(ask_last(feed("Homo\nHama\nH. ab"), last()), outcomes(MEANT_TWICE))
        self.assertEqual(ask_last(feed("Homo\n" * 300 + "x"), last()), outcomes(FULL))

    def test_no_unfinished_line(self):
        self.assert_answers(
            (last(), outcomes()),
            (feed("Homo\n"), outcomes(taken("Homo"))),
            (last(), outcomes()),
            (index(), entries()),
        )

    def test_paper_is_new(self):
        for end in ("", "Hama", "wrong", "Z. sp."):
            got = ask(feed("x\nHomo\n" + end), last(), index(), feed("H. ab\nPan\nP. ab\n"), index(), last(), index())
            self.assertEqual(got[2], entries())
            self.assertEqual(got[3], outcomes(NOT_MEANT, taken("Pan"), taken("Pan ab")))
            self.assertEqual(got[4], entries(("Pan", [2]), ("Pan ab", [3])))
            self.assertEqual(got[5:], [outcomes(), entries()])

    def test_unfinished_line_is_gone(self):
        self.assert_answers(
            (feed("Ho"), [0]),
            (last(), outcomes(taken("Ho"))),
            (feed("mo\n"), outcomes([-1])),
        )

    def test_three_hundred_names_again(self):
        got = ask(feed("Homo\n" * 300), last(), feed("H. ab\n" + "Homo\n" * 300 + "Homo\n"))
        self.assertEqual(got[2], outcomes(NOT_MEANT, *[taken("Homo")] * 300, FULL))


if __name__ == "__main__":
    unittest.main()
