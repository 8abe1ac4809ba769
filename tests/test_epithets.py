"""Points 2 (epithet), 3 (form), 5 (alike) and 6 (classes)."""

import random
import unittest

from calling import FAR, CallCase, alike, ask, ask_last, classes, epithet, fold, form, told

ENDINGS = (
    ("", "", ""),
    ("us", "a", "um"),
    ("er", "ra", "rum"),
    ("er", "era", "erum"),
    ("is", "is", "e"),
    ("er", "ris", "re"),
    ("or", "or", "us"),
    ("os", "e", "on"),
)


class EpithetTest(CallCase):
    def test_every_kind_told_by_every_form(self):
        for kind, endings in enumerate(ENDINGS):
            for ending in endings:
                with self.subTest(kind=kind, ending=ending):
                    got = ask(epithet(kind, "silv" + ending), form(0, 0), form(0, 1), form(0, 2))
                    self.assertEqual(got, [[0]] + [told("silv" + each) for each in endings])

    def test_equal_ones_are_put_again(self):
        self.assert_answers(
            (epithet(1, "albus"), [0]),
            (epithet(1, "albus"), [1]),
            (epithet(1, "alba"), [2]),
            (form(1, 2), told("album")),
        )

    def test_lengths_of_text(self):
        for length, expected in ((0, [-1]), (1, [-1]), (2, [0]), (40, [0]), (41, [-1]), (4096, [-1])):
            self.assertEqual(ask_last(epithet(0, "a" * length)), expected)

    def test_hyphens(self):
        right = ("a-b", "novae-angliae", "a-" + "b" * 38, "a" * 38 + "-b")
        wrong = ("-ab", "ab-", "-", "--", "a-", "-a", "a--b", "a-b-c", "-a-b", "a" * 39 + "-")
        for signs in right:
            self.assertEqual(ask(epithet(0, signs), form(0, 1)), [[0], told(signs)])
        for signs in wrong:
            with self.subTest(signs=signs):
                self.assertEqual(ask_last(epithet(0, signs)), [-1])

    def test_wrong_signs(self):
        for signs in ("Albus", "alBus", "al bus", "albus ", "albus.", "alb\xfcs", "al'bus", "alb\nus", "`a", "a{", "a2",
                      "\x00\x00", "\xff\xff"):
            with self.subTest(signs=signs):
                self.assertEqual(ask_last(epithet(0, signs)), [-1])

    def test_kinds(self):
        for kind in (8, *FAR):
            self.assertEqual(ask_last(epithet(kind, "albus")), [-2])

    def test_no_such_ending(self):
        wrong = {1: "niger", 2: "albus", 3: "asperu", 4: "albus", 5: "acra", 6: "majer", 7: "albus"}
        for kind, signs in wrong.items():
            with self.subTest(kind=kind):
                self.assertEqual(ask_last(epithet(kind, signs)), [-3])
        self.assertEqual(ask_last(epithet(3, "um")), [-3])
        self.assertEqual(ask_last(epithet(2, "ab")), [-3])

    def test_empty_stem(self):
        for kind, signs in ((2, "er"), (2, "ra"), (2, "rum"), (3, "er"), (3, "era"), (3, "erum"), (5, "er"),
                            (5, "ris"), (5, "re"), (6, "or"), (6, "us")):
            with self.subTest(kind=kind, signs=signs):
                got = ask(epithet(kind, signs), form(0, 0), form(0, 1), form(0, 2))
                self.assertEqual(got, [[0]] + [told(each) for each in ENDINGS[kind]])

    def test_empty_stem_with_a_form_too_short(self):
        for kind, signs in ((1, "us"), (1, "um"), (4, "is"), (7, "os"), (7, "on")):
            with self.subTest(kind=kind, signs=signs):
                self.assertEqual(ask_last(epithet(kind, signs)), [-4])

    def test_form_too_long(self):
        self.assertEqual(ask_last(epithet(1, "b" * 38 + "us")), [0])
        self.assertEqual(ask_last(epithet(1, "b" * 39 + "a")), [-4])
        self.assertEqual(ask_last(epithet(3, "b" * 36 + "er")), [0])
        self.assertEqual(ask_last(epithet(3, "b" * 37 + "er")), [-4])
        self.assertEqual(ask_last(epithet(2, "b" * 38 + "er")), [-4])
        self.assertEqual(ask_last(epithet(4, "b" * 39 + "e")), [-4])
        self.assertEqual(ask_last(epithet(5, "b" * 38 + "er")), [-4])
        self.assertEqual(ask_last(epithet(6, "b" * 38 + "or")), [0])

    def test_hyphen_before_the_ending(self):
        self.assertEqual(ask(epithet(1, "x-us"), form(0, 1)), [[0], told("x-a")])

    def test_two_hundred_and_one_more(self):
        rows = [epithet(1, "albus")] * 201
        got = ask(*rows, epithet(1, "-a"), epithet(8, "albus"), epithet(1, "niger"), epithet(1, "us"), form(199, 1),
                  form(200, 1))
        self.assertEqual(got[:200], [[number] for number in range(200)])
        self.assertEqual(got[200:], [[-5], [-1], [-2], [-3], [-4], told("alba"), [-1]])

    def test_order_of_refusals(self):
        self.assertEqual(ask_last(epithet(8, "Albus")), [-1])
        self.assertEqual(ask_last(epithet(-1, "a")), [-1])
        self.assertEqual(ask_last(epithet(1, "a")), [-1])

    def test_refused_epithet_takes_no_number(self):
        self.assert_answers(
            (epithet(1, "-a"), [-1]),
            (epithet(8, "albus"), [-2]),
            (epithet(1, "niger"), [-3]),
            (epithet(1, "us"), [-4]),
            (form(0, 0), [-1]),
            (classes(0), [0]),
            (epithet(1, "albus"), [0]),
            (classes(0), [1, 0]),
        )


class FormTest(CallCase):
    def test_refusals(self):
        albus = epithet(1, "albus")
        for number in (1, *FAR):
            self.assertEqual(ask_last(albus, form(number, 0)), [-1])
            self.assertEqual(ask_last(albus, form(number, 3)), [-1])
        for gender in (3, *FAR):
            self.assertEqual(ask_last(albus, form(0, gender)), [-2])
        self.assertEqual(ask_last(form(0, 0)), [-1])


class AlikeTest(CallCase):
    def test_by_gender(self):
        rows = [epithet(4, "silvestris"), epithet(1, "silvestrus"), epithet(5, "sylvester"), epithet(4, "sylvestre")]
        self.assertEqual(ask_last(*rows, alike(0, 3, 0)), [1])
        self.assertEqual(ask_last(*rows, alike(0, 2, 0)), [0])
        self.assertEqual(ask_last(*rows, alike(0, 2, 1)), [1])
        self.assertEqual(ask_last(*rows, alike(2, 0, 2)), [1])
        self.assertEqual(ask_last(*rows, alike(0, 1, 0)), [0])

    def test_to_itself(self):
        for gender in (0, 1, 2):
            self.assertEqual(ask_last(epithet(1, "albus"), alike(0, 0, gender)), [1])

    def test_ending_is_folded_too(self):
        # Pairs are looked for across the place where stem and ending meet.
        self.assertEqual(ask_last(epithet(3, "caer"), epithet(0, "cer"), alike(0, 1, 0)), [1])
        self.assertEqual(ask_last(epithet(3, "caer"), epithet(0, "cer"), alike(0, 1, 1)), [0])
        self.assertEqual(ask_last(epithet(4, "coae"), epithet(0, "ce"), alike(0, 1, 2)), [1])
        self.assertEqual(ask_last(epithet(4, "coae"), epithet(0, "ce"), alike(0, 1, 0)), [0])
        self.assertEqual(ask_last(epithet(4, "parris"), epithet(0, "par-is"), alike(0, 1, 0)), [1])

    def test_answer_is_a_whole_number(self):
        got = ask_last(epithet(1, "albus"), alike(0, 0, 0))
        self.assertIs(type(got[0]), int)

    def test_refusals(self):
        albus = epithet(1, "albus")
        for number in (1, *FAR):
            self.assertEqual(ask_last(albus, alike(number, 0, 0)), [-1])
            self.assertEqual(ask_last(albus, alike(number, number, 3)), [-1])
            self.assertEqual(ask_last(albus, alike(0, number, 0)), [-2])
            self.assertEqual(ask_last(albus, alike(0, number, 3)), [-2])
        for gender in (3, *FAR):
            self.assertEqual(ask_last(albus, alike(0, 0, gender)), [-3])


class ClassesTest(CallCase):
    def test_no_epithets(self):
        for gender in (0, 1, 2):
            self.assertEqual(ask_last(classes(gender)), [0])

    def test_by_gender(self):
        rows = [
            epithet(5, "silvester"),
            epithet(4, "sylvestris"),
            epithet(1, "albus"),
            epithet(4, "silvestris"),
            epithet(1, "allba"),
            epithet(0, "sylvester"),
        ]
        self.assertEqual(ask_last(*rows, classes(0)), [6, 0, 1, 2, 1, 2, 0])
        self.assertEqual(ask_last(*rows, classes(1)), [6, 0, 0, 2, 0, 2, 5])
        self.assertEqual(ask_last(*rows, classes(2)), [6, 0, 0, 2, 0, 2, 5])

    def test_refusals(self):
        for gender in (3, *FAR):
            self.assertEqual(ask_last(classes(gender)), [-1])
            self.assertEqual(ask_last(epithet(1, "albus"), classes(gender)), [-1])

    def test_many_against_form_and_fold(self):
        dice = random.Random(6)
        told_epithets = []
        for number in range(60):
            kind = dice.randrange(8)
            stem = "".join(dice.choice("aeprhct") for sign in range(dice.randrange(2, 4)))
            told_epithets.append(epithet(kind, stem + dice.choice(ENDINGS[kind])))
        for gender in (0, 1, 2):
            forms = ask(*told_epithets, *[form(number, gender) for number in range(60)])[60:]
            folds = ask(*[fold(each[1:]) for each in forms])
            expected = [60] + [folds.index(each) for each in folds]
            self.assertEqual(ask_last(*told_epithets, classes(gender)), expected)
            self.assertTrue(len(set(expected)) < 60)
            pairs = [(dice.randrange(60), dice.randrange(60)) for number in range(100)]
            got = ask(*told_epithets, *[alike(one, other, gender) for one, other in pairs])[60:]
            self.assertEqual(got, [[int(folds[one] == folds[other])] for one, other in pairs])


if __name__ == "__main__":
    unittest.main()
