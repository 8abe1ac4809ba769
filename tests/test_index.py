"""Point 17 (index): the entries of the paper that's read."""

import random
import unittest

from calling import CallCase, ask, ask_last, entries, feed, index, last
from judge import Dice, written


class IndexTest(CallCase):
    def assert_index(self, lines, *expected):
        self.assertEqual(ask_last(feed("".join(line + "\n" for line in lines)), index()), entries(*expected))

    def test_raw_form(self):
        self.assertEqual(index(), [16, 0, 0])
        self.assertEqual(ask_last(feed("Cd\nAb\nCd\n"), index()), [2, 2, 65, 98, 1, 2, 2, 67, 100, 2, 1, 3])

    def test_empty_paper(self):
        self.assertEqual(ask(index()), [[0]])
        self.assertEqual(ask_last(feed("Homo"), index()), [0])
        self.assertEqual(ask_last(feed("homo\n\nH. ab\n"), index()), [0])
        self.assertEqual(ask_last(feed("Homo\n"), last(), index()), [0])

    def test_equal_entries_from_unlike_authorships(self):
        self.assert_index(
            ("Homo albus", "Homo albus Adams, 1758", "Homo albus (Adams, 1758)", "Homo albus Adams et al., 1758",
             "Homo albus Brown & Clark, 2000", "Homo Adams, 1758", "Homo"),
            ("Homo", [6, 7]), ("Homo albus", [1, 2, 3, 4, 5]),
        )

    def test_everything_else_tells_entries_apart(self):
        lines = ("Homo", "Homo (Pan)", "Homo (Pan) albus", "Homo albus", "Homo albus niger", "Homo albus var. niger",
                 "Homo cf. albus", "Homo sp.", "Homo sp. 1", "Homo sp. 10", "Homo x albus", "Homoo")
        self.assertEqual(list(lines), sorted(lines))
        self.assert_index(lines, *[(line, [place + 1]) for place, line in enumerate(lines)])
        self.assert_index(lines[::-1], *[(line, [len(lines) - place]) for place, line in enumerate(lines)])

    def test_line_numbers(self):
        self.assert_index(
            ("", "Homo", "homo", "Apis", "Homo", "Z. ab", "Homo", "Apis"),
            ("Apis", [4, 8]), ("Homo", [2, 5, 7]),
        )

    def test_order(self):
        self.assert_index(
            ("Homo sp. 9", "Homo sp. 10", "Homo sp.", "Homo", "Homoa", "Homo ab", "Homo a-b", "Homo (Za)", "Ho", "Hoa zz",
             "Homo ab cd", "Homo abc", "Zo", "Ap", "Homo ab-c"),
            ("Ap", [14]), ("Ho", [9]), ("Hoa zz", [10]), ("Homo", [4]), ("Homo (Za)", [8]), ("Homo a-b", [7]),
            ("Homo ab", [6]), ("Homo ab cd", [11]), ("Homo ab-c", [15]), ("Homo abc", [12]), ("Homo sp.", [3]),
            ("Homo sp. 10", [2]), ("Homo sp. 9", [1]), ("Homoa", [5]), ("Zo", [13]),
        )

    def test_shortened_names_stand_whole(self):
        self.assert_index(
            ("Homo albus Adams, 1758", "H. albus", "Ho. albus (Brown, 1900)", "H. niger", "Hom. sp. 2"),
            ("Homo albus", [1, 2, 3]), ("Homo niger", [4]), ("Homo sp. 2", [5]),
        )

    def test_unfinished_lines_do_not_count(self):
        self.assert_answers(
            (feed("Homo\nApis"), [1, 0, 0, 0, 0, -1, 0, 0, 0, 4, 72, 111, 109, 111, 0, 0, 0, 0]),
            (index(), entries(("Homo", [1]))),
            (index(), entries(("Homo", [1]))),
            (feed("\n"), [1, 0, 0, 0, 0, -1, 0, 0, 0, 4, 65, 112, 105, 115, 0, 0, 0, 0]),
            (index(), entries(("Apis", [2]), ("Homo", [1]))),
        )

    def test_asking_leaves_the_names(self):
        got = ask(feed("Homo Adams, 1758\n"), index(), feed("H. ab Adams, 1758\n"), index())
        self.assertEqual(got[2][:8], [1, 0, 0, 0, 0, -1, 0, 0])
        self.assertEqual(got[2][-6:], [5, *b"Adams"])
        self.assertEqual(got[3], entries(("Homo", [1]), ("Homo ab", [2])))

    def test_three_hundred_names(self):
        got = ask(feed("Homo ab\nHomo cd\nApis\n" * 101), index())
        self.assertEqual(got[1], entries(
            ("Apis", list(range(3, 301, 3))), ("Homo ab", list(range(1, 301, 3))), ("Homo cd", list(range(2, 301, 3)))))

    def test_by_chance(self):
        dice = Dice(random.Random(40))
        for number in range(20):
            values = [dict(dice.sound_value(), abbr=0) for name in range(12)]
            for whole in values:
                whole["head"] = dice.chance.choice(("Ho", "Homo", "Hama"))
            lines = [written(whole) for whole in dice.chance.choices(values, k=25)]
            bare = {written(whole): written(dict(whole, authors=(), paren=0, etal=0, year=0)) for whole in values}
            places = {}
            for place, line in enumerate(lines):
                places.setdefault(bare[line], []).append(place + 1)
            rows = [feed(line + "\n") for line in lines]
            self.assertEqual(ask_last(*rows, index()), entries(*sorted(places.items())))


if __name__ == "__main__":
    unittest.main()
