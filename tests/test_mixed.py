"""All calls on one object: held against the model, and what holds of the whole program."""

import random
import unittest

import calling
from calling import CallCase, ask, entries, joined, outcomes, split, told
from judge import Dice, value, value_answer, written
from model import Model

from namesread.desk import answers

MOST_CALLS = 400
MOST_NUMBERS = 30000
MOST_INDEXES = 8
CALLS = ("genus", "epithet", "form", "fold", "alike", "classes", "family", "families", "turn", "read", "write", "cite",
         "who", "mend", "feed", "last", "index", "tell", "fresh")
HEADS = ("Ho", "Homo", "Homa", "Hama", "Homonym", "Apis", "Apion", "Acer", "Zea")
STEMS = ("alb", "silvatic", "sylvatic", "silvathic", "min", "nig", "aspe", "ac", "acr", "leuc", "l", "a-b", "phae")
ENDINGS = ("", "us", "a", "um", "er", "ra", "rum", "era", "is", "e", "ris", "re", "or", "os", "on")


class Calls:
    """Calls by chance, each a name and its arguments, on lists and papers that often fit together."""

    def __init__(self, seed):
        self.chance = random.Random(seed)
        self.dice = Dice(self.chance)

    def seldom(self):
        return self.chance.random() < 0.07

    def number(self, most):
        if self.seldom():
            return self.chance.choice((-2147483648, -2, -1, most, most + 1, 2147483647))
        return self.chance.randrange(most)

    def number_or_none(self, most):
        return -1 if self.chance.random() < 0.5 else self.number(most)

    def head(self):
        return self.dice.spoilt("Homo") if self.seldom() else self.chance.choice(HEADS)

    def word(self):
        return self.chance.choice(STEMS) + self.chance.choice(ENDINGS)

    def value(self):
        whole = self.dice.sound_value()
        if self.chance.random() < 0.8:
            whole.update(abbr=0, head=self.chance.choice(HEADS), sub=self.chance.choice(("", "", *HEADS)))
            for part in ("e1", "e2"):
                if whole[part]:
                    whole[part] = self.word()
        if len(whole["authors"]) > 3:
            whole["authors"] = whole["authors"][:3]
        if self.seldom():
            whole = self.dice.spoilt_value(whole)
        return whole

    def name(self):
        """A name's text: whole, shortened, or wrong."""
        whole = self.value()
        if self.chance.random() < 0.3 and (whole["e1"] or whole["num"] >= 0):
            whole.update(abbr=1, head=whole["head"][:self.chance.randint(1, 4)])
        if whole["q1"] not in range(7) or whole["q2"] not in range(7):
            whole.update(q1=0, q2=0)
        signs = written(whole)
        return self.dice.spoilt(signs) if self.seldom() else signs

    def pieces(self):
        """Some lines of a paper, perhaps from and to their middle."""
        signs = "".join(self.name() + "\n" for line in range(self.chance.choice((0, 1, 1, 2, 3))))
        start = self.chance.randint(0, len(signs)) if self.seldom() else 0
        end = self.chance.randint(start, len(signs)) if self.chance.random() < 0.2 else len(signs)
        return signs[start:end]

    def arguments(self, call):
        if call in ("read", "who", "mend"):
            return (self.name(),)
        if call in ("write", "tell"):
            return (self.value(),)
        if call in ("last", "index", "fresh"):
            return ()
        return getattr(self, call)()

    def genus(self):
        return self.head(), self.number(3), self.number(5)

    def epithet(self):
        return self.number(8), self.word()

    def form(self):
        return self.number(5), self.number(3)

    def fold(self):
        return (self.word() + self.chance.choice(("", "-", "A", self.word())),)

    def alike(self):
        return self.number(5), self.number(5), self.number(3)

    def classes(self):
        return (self.number(3),)

    def family(self):
        return self.number(4), self.number(5)

    def families(self):
        return (self.chance.choice(HEADS)[:self.chance.randint(1, 4)] + self.chance.choice(("idae", "ina", "ini", "inaa")),)

    def turn(self):
        return self.number(4), self.number(3)

    def cite(self):
        authors = tuple(self.dice.author() for author in range(self.chance.choice((0, 0, 1, 1, 2, 3))))
        published = len(authors) > 0 and not self.seldom()
        first = self.number(4) if published else self.number_or_none(4)
        year = self.chance.choice((1000, 1758, 2999, 0)) if authors else self.chance.choice((0, 0, 0, 1758))
        etal = self.chance.choice((0, 1)) if len(authors) == 1 else self.number(1)
        return (self.number(4), self.number(5), self.number_or_none(4), self.number_or_none(5), first, year, etal, authors)

    def feed(self):
        return (self.pieces(),)

    def some(self, weights):
        """A list of calls as long as the bounds allow, at the most."""
        calls = []
        numbers = 0
        count = self.chance.choice((30, 100, MOST_CALLS))
        indexes = 0
        while len(calls) < count:
            call = self.chance.choices(CALLS, weights)[0]
            indexes += call == "index"
            if call == "index" and indexes > MOST_INDEXES:
                continue
            arguments = self.arguments(call)
            numbers += len(getattr(calling, call)(*arguments))
            if numbers > MOST_NUMBERS:
                break
            calls.append((call, arguments))
        return calls


def rows_of(calls):
    return [getattr(calling, call)(*arguments) for call, arguments in calls]


class MixedTest(CallCase):
    def assert_like_model(self, calls):
        model = Model()
        rows = rows_of(calls)
        numbers = joined(rows)
        self.assertLessEqual(len(calls), MOST_CALLS)
        self.assertLessEqual(len(numbers), MOST_NUMBERS)
        before = list(numbers)
        given = answers(numbers)
        self.assertEqual(numbers, before)
        self.assertEqual(answers(numbers), given)
        got = split(given)
        self.assertEqual(len(got), len(calls))
        for step, answer in zip(calls, got):
            self.assertEqual(answer, model.answer(step[0], *step[1]), step)
        return got

    def test_all_calls_evenly(self):
        for seed in range(40):
            self.assert_like_model(Calls(seed).some([1] * 19))

    def test_filled_lists(self):
        weights = [1, 2, 1, 1, 2, 1, 1, 1, 2, 1, 1, 6, 8, 8, 0, 0, 0, 0, 0]
        for seed in range(100, 130):
            calls = Calls(seed)
            lists = [("genus", (head, place % 3, 1 + place % 2)) for place, head in enumerate(HEADS[:5])]
            lists += [("epithet", (1 + place % 2, stem + "er" * (place % 2) + "us" * (1 - place % 2)))
                      for place, stem in enumerate(STEMS)]
            got = self.assert_like_model(lists + calls.some(weights)[:300])
            self.assertEqual(got[:5], [[0], [1], [2], [3], [4]])

    def test_papers(self):
        weights = [0] * 14 + [40, 1, 1, 40, 1]
        for seed in range(200, 230):
            self.assert_like_model(Calls(seed).some(weights))

    def test_papers_that_go_on(self):
        weights = [0] * 14 + [10, 0, 1, 10, 0]
        for seed in range(300, 310):
            self.assert_like_model(Calls(seed).some(weights))

    def test_each_call_is_answered_both_ways(self):
        """Chance must bring every call's answers and refusals, or the tests above hold nothing."""
        refused = {call: set() for call in CALLS}
        for seed in range(40):
            calls = Calls(seed).some([1] * 19)
            for (call, arguments), answer in zip(calls, ask(*rows_of(calls))):
                refused[call].add(answer[0] < 0)
        for call in CALLS:
            never = call in ("families", "feed", "last", "index", "fresh")
            self.assertEqual(refused[call], {False} if never else {False, True}, call)

    def test_as_many_numbers_as_there_may_be(self):
        line = "Homo (Pan) cf. albus subsp. niger (Adams & Brown, 1758)\n"
        whole = value("Homo", sub="Pan", q1=1, e1="albus", q2=4, e2="niger", paren=1, authors=("Adams", "Brown"), year=1758)
        calls = [("feed", (line * 73,))] * 4 + [("index", ())] * 8 + [("tell", (whole,)), ("write", (whole,))] * 60
        calls += [("genus", ("Homo", 1, 1)), ("epithet", (1, "albus"))] + [("mend", (line[:-1],))] * 60
        calls += [("who", (line[:-1],))] * 20
        calls += [("fresh", ())] * (MOST_CALLS - 1 - len(calls))
        left = MOST_NUMBERS - len(joined(rows_of(calls))) - len(calling.read(""))
        self.assertTrue(0 < left <= 4096)
        calls.append(("read", ("H" + "o" * (left - 1),)))
        self.assertEqual(len(joined(rows_of(calls))), MOST_NUMBERS)
        got = self.assert_like_model(calls)
        self.assertEqual(len(got), MOST_CALLS)
        self.assertEqual(got[11], entries(("Homo (Pan) cf. albus subsp. niger", list(range(1, 293)))))


class PartsTest(CallCase):
    """Genera, epithets, the paper read and the paper written don't touch one another."""

    RUNS = (
        [("genus", ("Homo", 0, 3)), ("genus", ("Homo", 1, 3)), ("family", (0, 1)), ("turn", (0, 2)), ("families", ("Homidae",)),
         ("turn", (0, 1)), ("genus", ("Hama", 0, 2)), ("family", (1, 0)), ("family", (2, 0))],
        [("epithet", (1, "albus")), ("epithet", (1, "allbus")), ("form", (0, 1)), ("classes", (0,)), ("alike", (0, 1, 2)),
         ("form", (2, 0)), ("epithet", (9, "ab")), ("classes", (1,))],
        [("feed", ("Homo ab\nH.",)), ("index", ()), ("feed", (" cd\nwrong\nHama\nH. ab\nAp",)), ("index", ()), ("last", ()),
         ("index", ()), ("feed", ("H. ab\n",)), ("last", ())],
        [("tell", (value("Homo", e1="ab"),)), ("tell", (value("Homo", e1="ab"),)), ("tell", (value("H", e1="ab"),)),
         ("tell", (value("Hama", num=0),)), ("tell", (value("Homo", num=3),)), ("fresh", ()), ("tell", (value("Homo", num=3),)),
         ("fresh", ())],
    )

    def test_each_answers_as_alone(self):
        chance = random.Random(60)
        alone = [ask(*rows_of(run)) for run in self.RUNS]
        for number in range(60):
            order = [place for place, run in enumerate(self.RUNS) for step in run]
            chance.shuffle(order)
            left = [list(run) for run in self.RUNS]
            got = ask(*rows_of([left[place].pop(0) for place in order]))
            for place, expected in enumerate(alone):
                self.assertEqual([answer for one, answer in zip(order, got) if one == place], expected)

    def test_papers_do_not_know_the_lists(self):
        self.assert_answers(
            (calling.genus("Homo", 1), [0]),
            (calling.epithet(1, "albus"), [0]),
            (calling.feed("H. albus\nHomo album\n"), outcomes([-1001], value_answer(value("Homo", e1="album")))),
            (calling.tell(value("Homo", e1="album")), told("Homo album")),
            (calling.who("Homo album"), [0, 0, -1, 0, 0, 0, 0]),
            (calling.index(), entries(("Homo album", [2]))),
            (calling.fresh(), [1]),
        )

    def test_the_lists_do_not_know_the_papers(self):
        got = ask(calling.feed("Homo albus\n"), calling.tell(value("Homo", e1="albus")), calling.who("Homo albus"),
                  calling.mend("Homo albus"), calling.family(0, 0), calling.form(0, 0), calling.who("H. albus"))
        self.assertEqual(got[2:], [[-1002], [-1002], [-1], [-1], [-1001]])

    def test_the_papers_do_not_know_one_another(self):
        self.assert_answers(
            (calling.feed("Homo\n"), outcomes(value_answer(value("Homo")))),
            (calling.tell(value("Homo", e1="ab")), told("Homo ab")),
            (calling.tell(value("Hama", e1="ab")), told("Hama ab")),
            (calling.feed("H. ab\n"), outcomes(value_answer(value("Homo", e1="ab")))),
            (calling.last(), outcomes()),
            (calling.tell(value("Homo", e1="ab")), told("Ho. ab")),
            (calling.feed("Homo\nA"), outcomes(value_answer(value("Homo")))),
            (calling.fresh(), [3]),
            (calling.feed("b\nH. ab\n"), outcomes(value_answer(value("Ab")), value_answer(value("Homo", e1="ab")))),
            (calling.index(), entries(("Ab", [2]), ("Homo", [1]), ("Homo ab", [3]))),
        )


class RefusalTest(CallCase):
    """A refusal leaves the object as it was."""

    BEFORE = [
        ("genus", ("Homo", 0, 3)), ("genus", ("Apis", 1, 2)), ("epithet", (1, "albus")), ("epithet", (2, "niger")),
        ("feed", ("Homo albus\nApis\nwrong\nHo",)), ("tell", (value("Homo", e1="albus"),)), ("tell", (value("Hama"),)),
    ]
    AFTER = [
        ("families", ("Homidae",)), ("classes", (0,)), ("form", (1, 1)), ("turn", (0, 0)), ("turn", (1, 1)),
        ("who", ("Apis (Homo) alba nigra",)), ("mend", ("Apis albus niger",)), ("index", ()), ("feed", (". ab\nH. ab",)),
        ("last", ()), ("tell", (value("Homo", e1="ab"),)), ("tell", (value("Hama", num=1),)), ("fresh", ()),
        ("genus", ("Zea", 0, 1)), ("epithet", (1, "rarus")), ("index", ()), ("fresh", ()),
    ]
    REFUSED = [
        ("genus", ("homo", 0, 1)), ("genus", ("Zea", 3, 1)), ("genus", ("Zea", 0, 4)), ("genus", ("Homo", 1, 1)),
        ("epithet", (1, "A")), ("epithet", (8, "albus")), ("epithet", (2, "albus")), ("epithet", (1, "us")),
        ("form", (2, 0)), ("form", (0, 3)), ("fold", ("A",)), ("alike", (2, 0, 0)), ("alike", (0, 2, 0)), ("alike", (0, 0, 3)),
        ("classes", (3,)), ("family", (2, 0)), ("family", (0, 5)), ("turn", (2, 0)), ("turn", (0, 3)), ("read", ("x",)),
        ("write", (value("x"),)), ("cite", (2, 0)), ("cite", (0, 0, 2)), ("cite", (0, 2)), ("cite", (0, 0, -1, 2)),
        ("cite", (0, 0, -1, -1, 2)), ("cite", (0, 0, -1, -1, 1, 1758, 0, ())), ("who", ("x",)), ("who", ("H. ab",)),
        ("who", ("Zea ab",)), ("who", ("Homo",)), ("mend", ("x",)), ("mend", ("H. ab",)), ("mend", ("Zea ab",)),
        ("mend", ("Homo",)), ("tell", (value("x"),)), ("tell", (value("Z", abbr=1, e1="ab"),)),
    ]

    def test_each_refusal(self):
        expected = ask(*rows_of(self.BEFORE + self.AFTER))[len(self.BEFORE):]
        for step in self.REFUSED:
            got = ask(*rows_of(self.BEFORE + [step] + self.AFTER))[len(self.BEFORE):]
            self.assertLess(got[0][0], 0, step)
            self.assertEqual(len(got[0]), 1, step)
            self.assertEqual(got[1:], expected, step)

    def test_all_refusals_at_once(self):
        expected = ask(*rows_of(self.BEFORE + self.AFTER))[len(self.BEFORE):]
        got = ask(*rows_of(self.BEFORE + self.REFUSED + self.AFTER))
        self.assertEqual(got[-len(self.AFTER):], expected)

    def test_full_lists(self):
        genera = [("genus", ("G" + chr(97 + place // 26) + chr(97 + place % 26), 0, 1)) for place in range(200)]
        got = ask(*rows_of(genera + [("genus", ("Zea", 0, 1)), ("family", (199, 1)), ("family", (200, 1))]))
        self.assertEqual(got[-3:], [[-5], told("Gidae"), [-1]])
        got = ask(*rows_of([("tell", (value("Ho", num=0),))] * 301 + [("fresh", ())]))
        self.assertEqual(got[-2:], [[-2], [300]])


class WholeTest(CallCase):
    def test_whole_numbers_alone(self):
        for seed in range(10):
            given = answers(joined(rows_of(Calls(seed).some([1] * 19))))
            self.assertIs(type(given), list)
            self.assertEqual({type(number) for number in given}, {int})

    def test_nothing_is_kept(self):
        first = joined(rows_of(RefusalTest.BEFORE + RefusalTest.AFTER[:8]))
        expected = answers(first)
        other = joined(rows_of([("index", ()), ("fresh", ()), ("last", ()), ("who", ("Homo albus",)), ("classes", (0,))]))
        self.assertEqual(answers(other), [1, 0, 1, 0, 1, 0, 1, -1002, 1, 0])
        self.assertEqual(answers(first), expected)
        expected_again = list(expected)
        answers(first).clear()
        self.assertEqual(expected, expected_again)


if __name__ == "__main__":
    unittest.main()
