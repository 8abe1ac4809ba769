"""A slow, plain model of the whole object: each method is a call, and answers what the call is to answer.

Texts are str here, one sign for each byte. Nothing of the package is used.
"""

import re

import judge
from calling import entries, outcomes, told

ENDINGS = (
    ("", "", ""), ("us", "a", "um"), ("er", "ra", "rum"), ("er", "era", "erum"),
    ("is", "is", "e"), ("er", "ris", "re"), ("or", "or", "us"), ("os", "e", "on"),
)
FAMILY_ENDINGS = ("oidea", "idae", "inae", "ini", "ina")
PAIRS = {"ae": "e", "oe": "e", "ph": "f", "pf": "f", "ch": "c", "th": "t", "rh": "r", "ct": "t"}
PAIRS.update({letter * 2: letter for letter in "bcdfgilmnpqrstxz"})
GENUS = re.compile(judge.GENUS)
EPITHET = re.compile(judge.EPITHET)
AUTHOR = re.compile(judge.AUTHOR)


def folded(signs):
    signs = signs.replace("-", "").translate(str.maketrans("jyvk", "iiuc"))
    while any(pair in signs for pair in PAIRS):
        for pair, letter in PAIRS.items():
            signs = signs.replace(pair, letter)
    return signs


def counted(row):
    return [len(row), *row]


class Refusal(Exception):
    """Carries the number that is answered alone."""


def refuse(number, wrong):
    if wrong:
        raise Refusal(number)


def read_value(signs):
    refuse(-1 - (0 if judge.is_right(signs) else judge.place_of(signs)), not judge.is_right(signs))
    return judge.value_read(signs)


class Model:
    def __init__(self):
        self.genera = []  # [text, gender, stem length]
        self.epithets = []  # the three forms
        self.fresh_paper()
        self.names_told = []

    def fresh_paper(self):
        self.unfinished = ""
        self.lines = 0
        self.names = []  # (line's number, value)

    def answer(self, name, *arguments):
        try:
            return getattr(self, name)(*arguments)
        except Refusal as refusal:
            return [refusal.args[0]]

    def gender_is_there(self, number, gender):
        refuse(number, gender not in (0, 1, 2))

    def genus_is_there(self, number, genus):
        refuse(number, genus not in range(len(self.genera)))

    def epithet_is_there(self, number, epithet):
        refuse(number, epithet not in range(len(self.epithets)))

    def genus(self, signs, gender, stem):
        refuse(-1, not GENUS.fullmatch(signs))
        self.gender_is_there(-2, gender)
        refuse(-3, stem not in range(1, min(35, len(signs)) + 1))
        refuse(-4, signs in [text for text, *others in self.genera])
        refuse(-5, len(self.genera) == 200)
        self.genera.append([signs, gender, stem])
        return [len(self.genera) - 1]

    def epithet(self, kind, signs):
        refuse(-1, not EPITHET.fullmatch(signs))
        refuse(-2, kind not in range(8))
        stems = [signs.removesuffix(ending) for ending in ENDINGS[kind] if signs.endswith(ending)]
        refuse(-3, not stems)
        forms = tuple(stems[0] + ending for ending in ENDINGS[kind])
        refuse(-4, not all(EPITHET.fullmatch(form) for form in forms))
        refuse(-5, len(self.epithets) == 200)
        self.epithets.append(forms)
        return [len(self.epithets) - 1]

    def form(self, number, gender):
        self.epithet_is_there(-1, number)
        self.gender_is_there(-2, gender)
        return told(self.epithets[number][gender])

    def fold(self, signs):
        refuse(-1, not re.fullmatch("[a-z-]*", signs))
        return told(folded(signs))

    def alike(self, one, other, gender):
        self.epithet_is_there(-1, one)
        self.epithet_is_there(-2, other)
        self.gender_is_there(-3, gender)
        return [int(folded(self.epithets[one][gender]) == folded(self.epithets[other][gender]))]

    def classes(self, gender):
        self.gender_is_there(-1, gender)
        folds = [folded(forms[gender]) for forms in self.epithets]
        return counted([folds.index(one) for one in folds])

    def family(self, number, rank):
        self.genus_is_there(-1, number)
        refuse(-2, rank not in range(5))
        signs, gender, stem = self.genera[number]
        return told(signs[:stem] + FAMILY_ENDINGS[rank])

    def families(self, signs):
        pairs = [(number, rank) for number in range(len(self.genera)) for rank in range(5)
                 if self.family(number, rank) == told(signs)]
        return [len(pairs)] + [number for pair in pairs for number in pair]

    def turn(self, number, gender):
        self.genus_is_there(-1, number)
        self.gender_is_there(-2, gender)
        before = self.genera[number][1]
        self.genera[number][1] = gender
        return [before]

    def read(self, signs):
        return judge.value_answer(read_value(signs))

    def write(self, value):
        refuse(-1, not judge.is_sound(value))
        return told(judge.written(value))

    def cite(self, number, first_epithet, sub, e2, first, year, etal, authors):
        self.genus_is_there(-1, number)
        if sub != -1:
            self.genus_is_there(-2, sub)
        self.epithet_is_there(-3, first_epithet)
        if e2 != -1:
            self.epithet_is_there(-4, e2)
        if first != -1:
            self.genus_is_there(-5, first)
        if first == -1:
            refuse(-6, len(authors) > 0 or year != 0 or etal != 0)
        else:
            refuse(-6, len(authors) not in range(1, 9) or not all(AUTHOR.fullmatch(author) for author in authors))
            refuse(-6, etal not in (0, 1) or (etal == 1 and len(authors) > 1) or year not in range(1000, 3000))
        signs, gender, stem = self.genera[number]
        return told(judge.written(judge.value(
            signs, sub=self.genera[sub][0] if sub != -1 else "", e1=self.epithets[first_epithet][gender],
            e2=self.epithets[e2][gender] if e2 != -1 else "", paren=0 if first in (-1, number) else 1,
            year=year, etal=etal, authors=tuple(authors),
        )))

    def listed(self, signs):
        """The value that is read, its genus's number and gender."""
        value = read_value(signs)
        refuse(-1001, value["abbr"] == 1)
        texts = [text for text, *others in self.genera]
        refuse(-1002, value["head"] not in texts)
        refuse(-1003, value["e1"] == "")
        number = texts.index(value["head"])
        return value, number, self.genera[number][1]

    def who(self, signs):
        value, number, gender = self.listed(signs)
        texts = [text for text, *others in self.genera]
        sub = -1
        if value["sub"]:
            sub = texts.index(value["sub"]) if value["sub"] in texts else -2
        answer = [0, number, sub]
        for epithet in (value["e1"], value["e2"]):
            same = [place for place, forms in enumerate(self.epithets) if forms[gender] == epithet]
            alike = [place for place, forms in enumerate(self.epithets) if folded(forms[gender]) == folded(epithet)]
            answer += counted(same) + counted([place for place in alike if place not in same])
        return answer

    def mend(self, signs):
        value, number, gender = self.listed(signs)
        for part in ("e1", "e2"):
            having = [forms for forms in self.epithets if value[part] in forms]
            if having and value[part] not in [forms[gender] for forms in having]:
                value[part] = having[0][gender]
        return told(judge.written(value))

    def outcome(self, line):
        self.lines += 1
        refuse(-1003, len(self.names) == 300)
        value = read_value(line)
        if value["abbr"] == 1:
            heads = {name["head"] for number, name in self.names}
            meant = [head for head in heads if head.startswith(value["head"]) and head != value["head"]]
            refuse(-1001, len(meant) == 0)
            refuse(-1002, len(meant) > 1)
            value.update(abbr=0, head=meant[0])
        self.names.append((self.lines, value))
        return judge.value_answer(value)

    def feed(self, signs):
        *ended, self.unfinished = (self.unfinished + signs).split("\n")
        return outcomes(*[self.answer("outcome", line) for line in ended])

    def last(self):
        ended = [self.unfinished] if self.unfinished else []
        answer = outcomes(*[self.answer("outcome", line) for line in ended])
        self.fresh_paper()
        return answer

    def index(self):
        bare = {"authors": (), "paren": 0, "etal": 0, "year": 0}
        pairs = [(judge.written(dict(value, **bare)), line) for line, value in self.names]
        return entries(*[(entry, [line for other, line in pairs if other == entry])
                         for entry in sorted({entry for entry, line in pairs})])

    def tell(self, value):
        refuse(-1, not judge.is_sound(value) or value["abbr"] != 0)
        refuse(-2, len(self.names_told) == 300)
        head = value["head"]
        heads = {name["head"] for name in self.names_told}
        shorter = [head[:length] for length in range(1, len(head))
                   if [other for other in heads if other.startswith(head[:length]) and other != head[:length]] == [head]]
        self.names_told.append(value)
        if shorter and (value["e1"] != "" or value["num"] >= 0):
            value = dict(value, abbr=1, head=shorter[0])
        return told(judge.written(value))

    def fresh(self):
        count = len(self.names_told)
        self.names_told = []
        return [count]
