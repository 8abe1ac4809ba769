"""Point 14 (mend): endings put right."""

import unittest

from calling import CallCase, ask, ask_last, epithet, form, genus, mend, told, turn

GENERA = (genus("Homo", 0, 3), genus("Apis", 1, 2), genus("Acer", 2, 2))
LISTS = GENERA + (
    epithet(1, "albus"),
    epithet(2, "niger"),
    epithet(4, "viridis"),
    epithet(7, "leucos"),
    epithet(0, "apicola"),
)


class MendTest(CallCase):
    def assert_mended(self, signs, expected, lists=LISTS):
        self.assertEqual(ask_last(*lists, mend(signs)), told(expected) if isinstance(expected, str) else expected, signs)

    def test_raw_form(self):
        self.assertEqual(mend("Ab"), [13, 0, 1, 2, 65, 98])
        self.assert_mended("Acer albus", [0, 65, 99, 101, 114, 32, 97, 108, 98, 117, 109])

    def test_endings(self):
        for signs in ("Homo albus", "Homo alba", "Homo album"):
            self.assert_mended(signs, "Homo albus")
        for signs in ("Apis niger", "Apis nigra", "Apis nigrum"):
            self.assert_mended(signs, "Apis nigra")
        for signs in ("Acer leucos", "Acer leuce", "Acer leucon"):
            self.assert_mended(signs, "Acer leucon")
        self.assert_mended("Acer apicola", "Acer apicola")

    def test_both_epithets(self):
        self.assert_mended("Apis albus niger", "Apis alba nigra")
        self.assert_mended("Apis alba niger", "Apis alba nigra")
        self.assert_mended("Acer viridis album", "Acer viride album")
        self.assert_mended("Acer rarus albus", "Acer rarus album")
        self.assert_mended("Acer albus rarus", "Acer album rarus")
        self.assert_mended("Acer albus albus", "Acer album album")

    def test_none_has_it(self):
        self.assert_mended("Apis rarus", "Apis rarus")
        self.assert_mended("Apis rarus carus", "Apis rarus carus")
        self.assert_mended("Apis al-bus", "Apis al-bus")
        self.assert_mended("Apis allbus", "Apis allbus")
        self.assert_mended("Apis albus", "Apis albus", GENERA)

    def test_right_for_one_stays_though_wrong_for_a_lesser_one(self):
        # "magna" is the feminine of 0 and, whatever the gender, 1 itself.
        lists = GENERA + (epithet(1, "magnus"), epithet(0, "magna"))
        self.assert_mended("Homo magna", "Homo magna", lists)
        self.assert_mended("Acer magna", "Acer magna", lists)
        self.assert_mended("Acer albus magna", "Acer albus magna", lists)
        self.assert_mended("Acer magnus", "Acer magnum", lists)
        # "minus" is the masculine of 0 and the neuter of 1.
        lists = GENERA + (epithet(1, "minus"), epithet(6, "minor"))
        self.assert_mended("Acer minus", "Acer minus", lists)
        self.assert_mended("Homo minus", "Homo minus", lists)
        self.assert_mended("Apis minus", "Apis mina", lists)

    def test_right_for_a_lesser_one_stays(self):
        lists = GENERA + (epithet(0, "magna"), epithet(1, "magnus"))
        self.assert_mended("Homo magna", "Homo magna", lists)
        self.assert_mended("Homo magnum", "Homo magnus", lists)

    def test_least_number_among_several(self):
        # "minus" is a form of both, and of neither the feminine one.
        self.assert_mended("Apis minus", "Apis minor", GENERA + (epithet(6, "minor"), epithet(1, "minus")))
        self.assert_mended("Apis minus", "Apis mina", GENERA + (epithet(1, "minus"), epithet(6, "minor")))
        others = (epithet(1, "albus"), epithet(4, "viridis"))
        self.assert_mended("Apis minus", "Apis minor", GENERA + others + (epithet(6, "minor"), epithet(1, "minus")))
        # "acre" is the neuter of those of kinds 4 and 5 and the feminine of that of kind 7.
        forms = {4: "acris", 5: "acer", 7: "acros"}
        for kinds, expected in (((4, 5, 7), "acris"), ((5, 4, 7), "acer"), ((7, 5, 4), "acros")):
            lists = GENERA + tuple(epithet(kind, forms[kind]) for kind in kinds)
            self.assert_mended("Homo acre", "Homo " + expected, lists)

    def test_the_least_number_counts_not_the_gender(self):
        # "bonus" is the neuter of 0 and the masculine of 1.
        lists = GENERA + (epithet(6, "bonor"), epithet(1, "bonus"))
        self.assert_mended("Apis bonus", "Apis bonor", lists)
        self.assert_mended("Apis bonus", "Apis bona", GENERA + (epithet(1, "bonus"), epithet(6, "bonor")))

    def test_other_parts_are_kept(self):
        self.assert_mended("Apis (Homo) cf. albus subsp. niger (Adams, De Vries & Clark, 1758)",
                           "Apis (Homo) cf. alba subsp. nigra (Adams, De Vries & Clark, 1758)")
        self.assert_mended("Apis (Zea) x albus var. rarus Adams et al., 2999",
                           "Apis (Zea) x alba var. rarus Adams et al., 2999")
        self.assert_mended("Acer aff. albus f. niger", "Acer aff. album f. nigrum")
        self.assert_mended("Acer albus cf. niger O'Hara, 1000", "Acer album cf. nigrum O'Hara, 1000")

    def test_gender_is_that_of_the_head_alone(self):
        self.assert_mended("Apis (Acer) albus", "Apis (Acer) alba")
        self.assert_mended("Acer (Apis) alba", "Acer (Apis) album")

    def test_gender_after_turn(self):
        got = ask(*LISTS, mend("Homo albus"), turn(0, 2), mend("Homo albus"), turn(0, 1), mend("Homo albus niger"))
        self.assertEqual([got[-5], got[-3], got[-1]], [told("Homo albus"), told("Homo album"), told("Homo alba nigra")])

    def test_longer_than_before(self):
        long = "a" * 37
        lists = GENERA + (epithet(2, long + "er"),)
        self.assertEqual(ask_last(*lists), [0])
        self.assert_mended("Acer " + long + "ra", "Acer " + long + "rum", lists)

    def test_wrong_texts(self):
        for signs, place in (("", 0), ("homo albus", 0), ("Homo ", 5), ("Homo albus ", 11), ("Homo Albus", 10),
                             ("Homo albus.", 10), ("Homo albus\n", 10)):
            self.assert_mended(signs, [-1 - place])
            self.assert_mended(signs, [-1 - place], ())

    def test_refusals_in_their_order(self):
        self.assert_mended("H. albus", [-1001])
        self.assert_mended("H. sp.", [-1001])
        self.assert_mended("Homo. albus", [-1001])
        self.assert_mended("Z. albus", [-1001], ())
        self.assert_mended("Pan albus", [-1002])
        self.assert_mended("Pan (Homo) albus", [-1002])
        self.assert_mended("Pan", [-1002])
        self.assert_mended("Pan sp.", [-1002])
        for signs in ("Homo", "Homo sp.", "Homo sp. 3", "Homo (Acer)", "Homo Adams, 1758"):
            self.assert_mended(signs, [-1003])

    def test_mending_changes_no_list(self):
        got = ask(*LISTS, mend("Acer albus"), mend("Pan albus"), form(0, 0), form(0, 2), mend("Acer albus"), turn(2, 2))
        self.assertEqual(got[-4:], [told("albus"), told("album"), told("Acer album"), [2]])


if __name__ == "__main__":
    unittest.main()
