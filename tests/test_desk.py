"""The interface: how calls are handed in and answers given back."""

import unittest

from calling import (CallCase, alike, ask, classes, epithet, families, family, fold, form, genus, joined, read, told,
                     turn)

from namesread.desk import answers

SEVERAL = [
    genus("Homo", 0, 3),
    epithet(1, "albus"),
    form(0, 1),
    fold("phyllon"),
    alike(0, 0, 2),
    classes(1),
    family(0, 1),
    families("Homidae"),
    turn(0, 1),
    read("Homo alba"),
    genus("homo"),
    read("Homo Alba"),
]


class DeskTest(CallCase):
    def test_raw_form_of_calls_and_answers(self):
        calls = [0, 2, 1, 2, 1, 4, 65, 112, 105, 115]
        calls += [1, 1, 0, 1, 2, 97, 98]
        calls += [2, 2, 0, 2, 0]
        calls += [3, 0, 1, 0]
        calls += [4, 3, 0, 0, 0, 0]
        calls += [5, 1, 0, 0]
        calls += [6, 2, 0, 4, 0]
        calls += [7, 0, 1, 5, 65, 112, 105, 110, 97]
        calls += [8, 2, 0, 2, 0]
        calls += [9, 0, 1, 2, 65, 98]
        calls += [9, 0, 1, 0]
        expected = [1, 0]
        expected += [1, 0]
        expected += [3, 0, 97, 98]
        expected += [1, 0]
        expected += [1, 1]
        expected += [2, 1, 0]
        expected += [6, 0, 65, 112, 105, 110, 97]
        expected += [3, 1, 0, 4]
        expected += [1, 1]
        expected += [15, 0, 0, 0, 0, -1, 0, 0, 0, 2, 65, 98, 0, 0, 0, 0]
        expected += [1, -1]
        self.assertEqual(answers(calls), expected)

    def test_several_calls_on_one_object(self):
        got = ask(*SEVERAL)
        self.assertEqual(got[:9], [[0], [0], told("alba"), told("filon"), [1], [1, 0], told("Homidae"), [1, 0, 1], [0]])
        self.assertEqual(got[9][:8], [0, 0, 0, 0, -1, 0, 0, 0])
        self.assertEqual(got[10:], [[-1], [-1 - 9]])

    def test_one_call(self):
        self.assertEqual(answers(read("Homo sapiens.")), [1, -13])

    def test_what_is_handed_in_stays(self):
        calls = joined(SEVERAL)
        before = list(calls)
        answers(calls)
        self.assertEqual(calls, before)

    def test_nothing_is_kept(self):
        calls = joined(SEVERAL)
        first = answers(calls)
        first_again = list(first)
        second = answers(calls)
        self.assertEqual(first, second)
        second.clear()
        self.assertEqual(first, first_again)
        self.assertEqual(answers(family(0, 0)), [1, -1])
        self.assertEqual(answers(form(0, 0)), [1, -1])
        self.assertEqual(answers(classes(0)), [1, 0])

    def test_answers_do_not_hang_together(self):
        self.assert_answers(
            (epithet(1, "albus"), [0]),
            (form(0, 0), told("albus")),
            (form(0, 0), told("albus")),
            (genus("Homo", 0, 3), [0]),
            (family(0, 1), told("Homidae")),
            (family(0, 1), told("Homidae")),
        )

    def test_genera_and_epithets_do_not_touch(self):
        self.assert_answers(
            (genus("Homo"), [0]),
            (form(0, 0), [-1]),
            (epithet(1, "albus"), [0]),
            (epithet(1, "albus"), [1]),
            (family(1, 0), [-1]),
            (turn(0, 2), [0]),
            (form(1, 0), told("albus")),
        )

    def test_whole_numbers_alone(self):
        given = answers(joined(SEVERAL))
        self.assertIs(type(given), list)
        self.assertEqual({type(number) for number in given}, {int})

    def test_four_hundred_calls(self):
        rows = [epithet(1, "albus")] * 200 + [classes(0)] * 200
        got = ask(*rows)
        self.assertEqual(got[-1], [200] + [0] * 200)
        self.assertEqual(len(got), 400)


if __name__ == "__main__":
    unittest.main()
