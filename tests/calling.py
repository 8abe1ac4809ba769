"""Building lists of calls, and taking lists of answers apart."""

import unittest

from namesread.desk import answers

GENUS, EPITHET, FORM, FOLD, ALIKE, CLASSES, FAMILY, FAMILIES, TURN, READ = range(10)
WRITE, CITE, WHO, MEND, FEED, LAST, INDEX, TELL, FRESH = range(10, 19)

NUMBERS = ("abbr", "q1", "q2", "num", "paren", "etal", "year")
TEXTS = ("head", "sub", "e1", "e2")

# Numbers that are far out at both ends, and just beyond 0.
FAR = (-1, -2147483648, 2147483647)


def text(signs):
    """The bytes of signs, which are told as str, bytes or a list of numbers."""
    return list(signs.encode("latin-1")) if isinstance(signs, str) else list(signs)


def call(number, numbers=(), texts=()):
    row = [number, len(numbers), *numbers, len(texts)]
    for signs in texts:
        row += [len(text(signs)), *text(signs)]
    return row


def genus(signs, gender=0, stem=1):
    return call(GENUS, (gender, stem), (signs,))


def epithet(kind, signs):
    return call(EPITHET, (kind,), (signs,))


def form(number, gender):
    return call(FORM, (number, gender))


def fold(signs):
    return call(FOLD, (), (signs,))


def alike(one, other, gender):
    return call(ALIKE, (one, other, gender))


def classes(gender):
    return call(CLASSES, (gender,))


def family(number, rank):
    return call(FAMILY, (number, rank))


def families(signs):
    return call(FAMILIES, (), (signs,))


def turn(number, gender):
    return call(TURN, (number, gender))


def read(signs):
    return call(READ, (), (signs,))


def value_call(number, told):
    """told is a value as a dict, as judge.value makes it."""
    return call(number, [told[part] for part in NUMBERS], [told[part] for part in TEXTS] + list(told["authors"]))


def write(told):
    return value_call(WRITE, told)


def cite(number, first_epithet, sub=-1, e2=-1, first=-1, year=0, etal=0, authors=()):
    return call(CITE, (number, sub, first_epithet, e2, first, year, etal), authors)


def who(signs):
    return call(WHO, (), (signs,))


def mend(signs):
    return call(MEND, (), (signs,))


def feed(signs):
    return call(FEED, (), (signs,))


def last():
    return call(LAST)


def index():
    return call(INDEX)


def tell(told):
    return value_call(TELL, told)


def fresh():
    return call(FRESH)


def split(given):
    """Each call's answer by itself."""
    apart = []
    place = 0
    while place < len(given):
        count = given[place]
        apart.append(given[place + 1:place + 1 + count])
        assert len(apart[-1]) == count, "an answer is shorter than it says"
        place += 1 + count
    return apart


def joined(rows):
    return [number for row in rows for number in row]


def ask(*calls):
    return split(answers(joined(calls)))


def ask_last(*calls):
    return ask(*calls)[-1]


def told(signs):
    """A text as an answer."""
    return [0, *text(signs)]


def outcomes(*rows):
    """What feed and last answer: each row is a value as an answer, or a refusal alone."""
    return [len(rows), *joined(rows)]


def entries(*pairs):
    """What index answers: each pair is a text and its lines' numbers."""
    rows = [[len(signs), *text(signs), len(lines), *lines] for signs, lines in pairs]
    return [len(pairs), *joined(rows)]


class CallCase(unittest.TestCase):
    def assert_answers(self, *pairs):
        """Each pair is a call and its answer, on one object in this order."""
        got = ask(*[row for row, expected in pairs])
        self.assertEqual(got, [expected for row, expected in pairs])
