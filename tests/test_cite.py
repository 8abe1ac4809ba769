"""Point 12 (cite): names made from the lists."""

import unittest

from calling import FAR, CallCase, ask, ask_last, cite, epithet, genus, read, told, turn
from judge import value, value_answer

EIGHT = ("Adams", "Brown", "Clark", "De Vries", "Eve-Ann", "O'Hara", "McGee", "Z")
# Genera 0 to 2, one of each gender, and epithets 0 to 2.
LISTS = (
    genus("Homo", 0, 3),
    genus("Apis", 1, 2),
    genus("Acer", 2, 2),
    epithet(1, "albus"),
    epithet(2, "niger"),
    epithet(4, "viridis"),
)
PUBLISHED = {"first": 0, "year": 1758, "authors": ("Adams",)}


class CiteTest(CallCase):
    def assert_cited(self, row, expected):
        self.assertEqual(ask_last(*LISTS, row), told(expected) if isinstance(expected, str) else expected)

    def test_raw_form(self):
        row = cite(0, 1, sub=2, e2=0, first=1, year=1999, etal=0, authors=("I", "J"))
        self.assertEqual(row, [11, 7, 0, 2, 1, 0, 1, 1999, 0, 2, 1, 73, 1, 74])
        self.assert_cited(row, "Homo (Acer) niger albus (I & J, 1999)")

    def test_parts(self):
        self.assert_cited(cite(0, 0), "Homo albus")
        self.assert_cited(cite(0, 0, e2=1), "Homo albus niger")
        self.assert_cited(cite(0, 0, sub=1), "Homo (Apis) albus")
        self.assert_cited(cite(0, 0, sub=0), "Homo (Homo) albus")
        self.assert_cited(cite(0, 0, sub=1, e2=0), "Homo (Apis) albus albus")
        self.assert_cited(cite(0, 2, **PUBLISHED), "Homo viridis Adams, 1758")
        self.assert_cited(cite(0, 2, sub=2, e2=1, **PUBLISHED), "Homo (Acer) viridis niger Adams, 1758")

    def test_genders(self):
        self.assert_cited(cite(1, 0, e2=1), "Apis alba nigra")
        self.assert_cited(cite(2, 0, e2=1), "Acer album nigrum")
        self.assert_cited(cite(1, 2, e2=0), "Apis viridis alba")
        self.assert_cited(cite(2, 2, e2=0), "Acer viride album")

    def test_gender_is_that_of_the_genus_alone(self):
        self.assert_cited(cite(1, 0, sub=2), "Apis (Acer) alba")
        self.assert_cited(cite(1, 0, first=2, year=1758, authors=("Adams",)), "Apis alba (Adams, 1758)")

    def test_genders_after_turn(self):
        got = ask(*LISTS, cite(0, 0, e2=2), turn(0, 2), cite(0, 0, e2=2), turn(0, 1), cite(0, 0, e2=2), turn(1, 0),
                  cite(0, 0, e2=2))
        self.assertEqual(got[6:], [told("Homo albus viridis"), [0], told("Homo album viride"), [2],
                                   told("Homo alba viridis"), [1], told("Homo alba viridis")])

    def test_first(self):
        self.assert_cited(cite(0, 0, first=0, year=1758, authors=("Adams",)), "Homo albus Adams, 1758")
        self.assert_cited(cite(0, 0, first=1, year=1758, authors=("Adams",)), "Homo albus (Adams, 1758)")
        self.assert_cited(cite(1, 0, first=0, year=1758, authors=("Adams",)), "Apis alba (Adams, 1758)")
        self.assert_cited(cite(1, 0, first=1, year=1758, authors=("Adams",)), "Apis alba Adams, 1758")
        self.assert_cited(cite(2, 0, first=1, year=1758, etal=1, authors=("Adams",)), "Acer album (Adams et al., 1758)")
        self.assert_cited(cite(2, 0, first=2, year=1758, etal=1, authors=("Adams",)), "Acer album Adams et al., 1758")

    def test_authors_and_years(self):
        self.assert_cited(cite(0, 0, first=0, year=1000, authors=EIGHT[:2]), "Homo albus Adams & Brown, 1000")
        self.assert_cited(cite(0, 0, first=0, year=2999, authors=EIGHT[:3]), "Homo albus Adams, Brown & Clark, 2999")
        self.assert_cited(cite(0, 0, first=1, year=1758, authors=EIGHT),
                          "Homo albus (Adams, Brown, Clark, De Vries, Eve-Ann, O'Hara, McGee & Z, 1758)")
        self.assert_cited(cite(0, 0, first=0, year=1758, authors=("A" * 40,)), "Homo albus " + "A" * 40 + ", 1758")

    def test_what_is_cited_can_be_read(self):
        row = cite(1, 0, sub=0, e2=1, first=2, year=1758, etal=1, authors=("Adams",))
        signs = bytes(ask_last(*LISTS, row)[1:])
        whole = value("Apis", sub="Homo", e1="alba", e2="nigra", paren=1, etal=1, year=1758, authors=("Adams",))
        self.assertEqual(ask_last(read(signs)), value_answer(whole))

    def test_no_such_genus(self):
        for number in (3, *FAR):
            self.assert_cited(cite(number, 0), [-1])
        self.assertEqual(ask_last(cite(0, 0)), [-1])
        self.assertEqual(ask_last(epithet(1, "albus"), cite(0, 0)), [-1])

    def test_no_such_sub(self):
        for number in (3, -2, -2147483648, 2147483647):
            self.assert_cited(cite(0, 0, sub=number), [-2])

    def test_no_such_e1(self):
        for number in (3, *FAR):
            self.assert_cited(cite(0, number), [-3])
        self.assertEqual(ask_last(genus("Homo"), cite(0, 0)), [-3])

    def test_no_such_e2(self):
        for number in (3, -2, -2147483648, 2147483647):
            self.assert_cited(cite(0, 0, e2=number), [-4])

    def test_no_such_first(self):
        for number in (3, -2, -2147483648, 2147483647):
            self.assert_cited(cite(0, 0, first=number, year=1758, authors=("Adams",)), [-5])

    def test_genera_are_no_epithets(self):
        lists = (genus("Homo"), genus("Apis"), epithet(1, "albus"))
        self.assertEqual(ask_last(*lists, cite(0, 1)), [-3])
        self.assertEqual(ask_last(*lists, cite(0, 0, e2=1)), [-4])
        lists = (genus("Homo"), epithet(1, "albus"), epithet(1, "niveus"))
        self.assertEqual(ask_last(*lists, cite(1, 0)), [-1])
        self.assertEqual(ask_last(*lists, cite(0, 0, sub=1)), [-2])
        self.assertEqual(ask_last(*lists, cite(0, 0, first=1, year=1758, authors=("Adams",))), [-5])

    def test_published_nowhere(self):
        self.assert_cited(cite(0, 0, authors=("Adams",)), [-6])
        self.assert_cited(cite(0, 0, authors=("",)), [-6])
        self.assert_cited(cite(0, 0, authors=("Adams",) * 16), [-6])
        for number in (1, 1758, *FAR):
            self.assert_cited(cite(0, 0, year=number), [-6])
            self.assert_cited(cite(0, 0, etal=number), [-6])
        self.assert_cited(cite(0, 0, year=1758, authors=("Adams",)), [-6])
        self.assert_cited(cite(0, 0, year=1758, etal=1, authors=("Adams",)), [-6])

    def test_published_somewhere(self):
        for first in (0, 1):
            for count in (0, 9, 16):
                self.assert_cited(cite(0, 0, first=first, year=1758, authors=("Adams",) * count), [-6])
            for etal in (2, *FAR):
                self.assert_cited(cite(0, 0, first=first, year=1758, etal=etal, authors=("Adams",)), [-6])
            for count in (2, 3, 8):
                self.assert_cited(cite(0, 0, first=first, year=1758, etal=1, authors=("Adams",) * count), [-6])
            for year in (0, 999, 3000, *FAR):
                self.assert_cited(cite(0, 0, first=first, year=year, authors=("Adams",)), [-6])
            self.assert_cited(cite(0, 0, first=first), [-6])

    def test_published_by_wrong_authors(self):
        for signs in ("", "adams", "A" * 41, "Adams ", "Adams-", "Adams'", "De vries", "A.", "A, B", "A\xe4", "A\n"):
            for authors in ((signs,), ("Adams", signs), (signs, "Adams"), EIGHT[:7] + (signs,)):
                self.assert_cited(cite(0, 0, first=0, year=1758, authors=authors), [-6])

    def test_order_of_refusals(self):
        wrong = {"number": 9, "sub": 9, "first_epithet": 9, "e2": 9, "first": 9, "year": 1}
        right = {"number": 0, "sub": -1, "first_epithet": 0, "e2": -1, "first": -1, "year": 0}
        parts = list(wrong)
        for place, part in enumerate(parts):
            expected = [-1 - place]
            for other in parts[place + 1:]:
                self.assert_cited(cite(**dict(right, **{part: wrong[part], other: wrong[other]})), expected)
            behind = {other: wrong[other] for other in parts[place:]}
            self.assert_cited(cite(**dict(right, **behind)), expected)

    def test_refusals_and_answers_leave_the_lists(self):
        before = ask(*LISTS, cite(1, 0, e2=1))[-1]
        rows = [cite(9, 0), cite(0, 0, sub=9), cite(0, 9), cite(0, 0, e2=9), cite(0, 0, first=9), cite(0, 0, year=1),
                cite(0, 0, sub=1, e2=1, first=2, year=1758, etal=1, authors=("Adams",)), cite(1, 0, e2=1)]
        self.assertEqual(ask(*LISTS, *rows)[-1], before)


if __name__ == "__main__":
    unittest.main()
