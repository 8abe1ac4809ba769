"""Point 13 (who): which genera and epithets of the lists a name may mean."""

import unittest

from calling import CallCase, ask, ask_last, epithet, genus, turn, who

GENERA = (genus("Homo", 0, 3), genus("Apis", 1, 2), genus("Acer", 2, 2))
# In every gender 0, 3 and 6 have one form; 1, 4 and 7 are spelt otherwise with the same fold; 2 and 5 are others.
EPITHETS = (
    epithet(1, "sylvaticus"),
    epithet(1, "silvaticus"),
    epithet(1, "albus"),
    epithet(1, "sylvatica"),
    epithet(1, "silvathicum"),
    epithet(2, "niger"),
    epithet(1, "sylvaticum"),
    epithet(1, "syllvaticus"),
)
LISTS = GENERA + EPITHETS


def found(genus_number, sub, *lists):
    answer = [0, genus_number, sub]
    for numbers in lists:
        answer += [len(numbers), *numbers]
    return answer


class WhoTest(CallCase):
    def assert_who(self, signs, expected, lists=LISTS):
        self.assertEqual(ask_last(*lists, who(signs)), expected, signs)

    def test_raw_form(self):
        self.assertEqual(who("Ab"), [12, 0, 1, 2, 65, 98])
        self.assert_who("Homo sylvaticus syllvaticus",
                        [0, 0, -1, 3, 0, 3, 6, 3, 1, 4, 7, 1, 7, 5, 0, 1, 3, 4, 6])

    def test_lists_of_e1(self):
        self.assert_who("Homo sylvaticus", found(0, -1, [0, 3, 6], [1, 4, 7], [], []))
        self.assert_who("Homo silvaticus", found(0, -1, [1], [0, 3, 4, 6, 7], [], []))
        self.assert_who("Homo albus", found(0, -1, [2], [], [], []))
        self.assert_who("Homo al-bus", found(0, -1, [], [2], [], []))
        self.assert_who("Homo silvatticus", found(0, -1, [], [0, 1, 3, 4, 6, 7], [], []))
        self.assert_who("Homo rarus", found(0, -1, [], [], [], []))

    def test_lists_of_e2(self):
        self.assert_who("Homo albus sylvaticus", found(0, -1, [2], [], [0, 3, 6], [1, 4, 7]))
        self.assert_who("Homo sylvaticus albus", found(0, -1, [0, 3, 6], [1, 4, 7], [2], []))
        self.assert_who("Homo rarus al-bus", found(0, -1, [], [], [], [2]))
        self.assert_who("Homo sylvaticus silvaticus",
                        found(0, -1, [0, 3, 6], [1, 4, 7], [1], [0, 3, 4, 6, 7]))

    def test_gender_of_the_genus(self):
        self.assert_who("Apis sylvatica alba", found(1, -1, [0, 3, 6], [1, 4, 7], [2], []))
        self.assert_who("Apis sylvaticus albus", found(1, -1, [], [], [], []))
        self.assert_who("Acer sylvaticum nigrum", found(2, -1, [0, 3, 6], [1, 4, 7], [5], []))
        self.assert_who("Acer niger", found(2, -1, [], [], [], []))

    def test_gender_after_turn(self):
        got = ask(*LISTS, who("Homo alba"), turn(0, 1), who("Homo alba"), who("Homo albus"))
        self.assertEqual(got[-4], found(0, -1, [], [], [], []))
        self.assertEqual(got[-2:], [found(0, -1, [2], [], [], []), found(0, -1, [], [], [], [])])

    def test_sub(self):
        self.assert_who("Homo (Acer) albus", found(0, 2, [2], [], [], []))
        self.assert_who("Homo (Homo) albus", found(0, 0, [2], [], [], []))
        self.assert_who("Homo (Pan) albus", found(0, -2, [2], [], [], []))
        self.assert_who("Apis (Homo) alba", found(1, 0, [2], [], [], []))
        self.assert_who("Acer (Ho) album", found(2, -2, [2], [], [], []))

    def test_marks_and_authors_do_not_matter(self):
        for signs in ("Homo cf. albus", "Homo x albus", "Homo albus Adams, 1758", "Homo aff. albus (Adams et al., 1758)"):
            self.assert_who(signs, found(0, -1, [2], [], [], []))
        self.assert_who("Homo albus var. niger A & B, 1900", found(0, -1, [2], [], [5], []))

    def test_empty_epithets(self):
        self.assert_who("Homo albus niger", found(0, -1, [], [], [], []), GENERA)

    def test_wrong_texts(self):
        for signs, place in (("", 0), ("homo albus", 0), ("Homo ", 5), ("Homo albus ", 11), ("Homo Albus", 10),
                             ("Homo albus.", 10), ("Homo albus\n", 10)):
            self.assert_who(signs, [-1 - place])
            self.assert_who(signs, [-1 - place], ())

    def test_short_head(self):
        self.assert_who("H. albus", [-1001])
        self.assert_who("Hom. albus", [-1001])
        self.assert_who("Homo. albus", [-1001])
        self.assert_who("H. sp.", [-1001])
        self.assert_who("Z. sp. 4", [-1001], ())

    def test_no_such_genus(self):
        self.assert_who("Pan albus", [-1002])
        self.assert_who("Hom albus", [-1002])
        self.assert_who("Homoo albus", [-1002])
        self.assert_who("Pan (Homo) albus", [-1002])
        self.assert_who("Pan", [-1002])
        self.assert_who("Pan sp. 3", [-1002])
        self.assert_who("Homo albus", [-1002], EPITHETS)

    def test_no_e1(self):
        for signs in ("Homo", "Homo sp.", "Homo sp. 3", "Homo (Acer)", "Homo (Pan) sp.", "Homo Adams, 1758"):
            self.assert_who(signs, [-1003])

    def test_asking_changes_nothing(self):
        rows = [who("Homo (Acer) albus"), who("Homo albus."), who("H. albus"), who("Pan albus"), who("Homo")]
        self.assertEqual(ask(*LISTS, *rows, *rows)[-5:], ask(*LISTS, *rows)[-5:])

    def test_many(self):
        genera = [genus("Ge" + chr(97 + number // 26) + chr(97 + number % 26), number % 3) for number in range(100)]
        lists = genera + [epithet(1, "albus")] * 100
        self.assert_who("Gedv albus", found(99, -1, list(range(100)), [], [], []), lists)
        self.assert_who("Gedu (Geaa) albus", found(98, 0, [], [], [], []), lists)
        lists = [epithet(1, "allbus")] * 200 + [genus("Homo")]
        self.assert_who("Homo albus", found(0, -1, [], list(range(200)), [], []), lists)


if __name__ == "__main__":
    unittest.main()
