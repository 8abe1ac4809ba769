"""A slow, plain judge of right texts: what they are, what they are read as, and where others go wrong."""

import bisect
import re

MARKS = ("", "cf. ", "aff. ", "x ", "subsp. ", "var. ", "f. ")
FIRST_MARKS = (0, 1, 2, 3)
SECOND_MARKS = (0, 1, 2, 4, 5, 6)

GENUS = r"[A-Z][a-z]{1,39}"
SHORT = r"[A-Z][a-z]{0,38}\."
EPITHET = r"(?=[a-z-]{2,40}(?![a-z-]))[a-z]+(?:-[a-z]+)?"
AUTHOR = r"[A-Z](?:[A-Za-z]|[ '-](?=[A-Z])){0,39}"
AUTHORS = rf"{AUTHOR}(?: et al\.|(?:, {AUTHOR}){{0,6}} & {AUTHOR})?, [12][0-9]{{3}}"
ANY_HEAD = rf"(?:{GENUS}|{SHORT})(?: \({GENUS}\))?"
RIGHT = re.compile("|".join((
    rf"{GENUS}(?: \({GENUS}\))?(?: {AUTHORS})?",
    rf"{ANY_HEAD} sp\.(?: [1-9][0-9]{{0,3}})?",
    rf"{ANY_HEAD} (?:cf\. |aff\. |x )?{EPITHET}(?: (?:cf\. |aff\. |subsp\. |var\. |f\. )?{EPITHET})?"
    rf"(?: {AUTHORS}| \({AUTHORS}\))?",
)))

# Takes right texts apart; on others it means nothing.
PARTS = re.compile(
    r"(?P<head>[A-Z][a-z]*)(?P<dot>\.?)(?: \((?P<sub>[A-Z][a-z]+)\))?"
    r"(?P<unnamed> sp\.(?: (?P<num>[0-9]+))?)?"
    r"(?: (?P<first>cf\. |aff\. |x |)(?P<e1>[a-z-]+)"
    r"(?: (?P<second>cf\. |aff\. |subsp\. |var\. |f\. |)(?P<e2>[a-z-]+))?)?"
    r"(?: (?P<bracket>\(?)(?P<authors>[A-Z][A-Za-z ,&'-]*?)(?P<etal> et al\.)?, (?P<year>[0-9]{4})\)?)?"
)

# Every beginning of a right text becomes right with one of the ends of these.
WHOLE_TAILS = ("Aa aa", "Aa) aa", "1", "A & A, 1900", ", A & A, 1900", "A et al., 1900")
TAILS = sorted({
    (tail + closing)[place:]
    for tail in WHOLE_TAILS
    for closing in ("", ")")
    for place in range(len(tail + closing) + 1)
}, key=len)


def is_right(signs):
    return RIGHT.fullmatch(signs) is not None


def is_beginning(signs):
    return any(is_right(signs + tail) for tail in TAILS)


def place_of(signs):
    """The length of the longest beginning of signs that is a beginning of a right text too.

    A beginning of a beginning is one too, so the least length that is none can be searched by halves.
    """
    return bisect.bisect(range(len(signs) + 1), False, key=lambda length: not is_beginning(signs[:length])) - 1


def value(head, **others):
    """A value as a dict; what isn't told is zero or empty, num -1."""
    whole = {"abbr": 0, "q1": 0, "q2": 0, "num": -1, "paren": 0, "etal": 0, "year": 0,
             "head": head, "sub": "", "e1": "", "e2": "", "authors": ()}
    assert set(others) <= set(whole)
    whole.update(others)
    return whole


def value_read(signs):
    """The value that a right text is read as."""
    parts = PARTS.fullmatch(signs).groupdict("")
    told = value(parts["head"], sub=parts["sub"], e1=parts["e1"], e2=parts["e2"])
    told.update(abbr=len(parts["dot"]), q1=MARKS.index(parts["first"]), q2=MARKS.index(parts["second"]))
    if parts["unnamed"]:
        told["num"] = int(parts["num"] or "0")
    if parts["authors"]:
        told["authors"] = tuple(re.split(", | & ", parts["authors"]))
        told.update(paren=len(parts["bracket"]), etal=int(parts["etal"] != ""), year=int(parts["year"]))
    return told


def is_sound(told):
    """A value is sound if what is written of it is right and read as that very value."""
    if told["q1"] not in range(7) or told["q2"] not in range(7):
        return False
    signs = written(told)
    return is_right(signs) and value_read(signs) == told


def authorship(told):
    authors = list(told["authors"])
    signs = ", ".join(authors[:-1]) + " & " + authors[-1] if len(authors) > 1 else authors[0]
    return signs + (" et al." if told["etal"] else "") + ", " + str(told["year"])


def written(told):
    signs = told["head"] + ("." if told["abbr"] else "")
    if told["sub"]:
        signs += " (" + told["sub"] + ")"
    if told["num"] >= 0:
        signs += " sp." + (" " + str(told["num"]) if told["num"] else "")
    for mark, epithet in ((told["q1"], told["e1"]), (told["q2"], told["e2"])):
        if epithet:
            signs += " " + MARKS[mark] + epithet
    if told["authors"]:
        signs += (" ({})" if told["paren"] else " {}").format(authorship(told))
    return signs


def value_answer(told):
    """A value as an answer."""
    numbers = [0] + [told[part] for part in ("abbr", "q1", "q2", "num", "paren", "etal", "year")]
    for signs in (told["head"], told["sub"], told["e1"], told["e2"]):
        numbers += [len(signs), *signs.encode("latin-1")]
    numbers.append(len(told["authors"]))
    for signs in told["authors"]:
        numbers += [len(signs), *signs.encode("latin-1")]
    return numbers


def expected_answer(signs):
    """What read answers for a text that isn't right."""
    assert not is_right(signs)
    return [-1 - place_of(signs)]


class Dice:
    """Sound values by chance, with the bounds more often than chance would bring them."""

    def __init__(self, chance):
        self.chance = chance

    def length(self, least, most):
        return self.chance.choice((least, most, self.chance.randint(least, most), self.chance.randint(least, least + 5)))

    def small(self, count):
        return "".join(self.chance.choice("abcfpsuvxz") for sign in range(count))

    def genus(self, least=2, most=40):
        return self.chance.choice("AHZ") + self.small(self.length(least, most) - 1)

    def epithet(self):
        if self.chance.random() < 0.3:
            return self.chance.choice(("cf", "aff", "sp", "subsp", "var", "fx", "xx", "et"))
        signs = self.small(self.length(2, 40))
        if len(signs) > 2 and self.chance.random() < 0.5:
            place = self.chance.choice((1, len(signs) - 2, self.chance.randint(1, len(signs) - 2)))
            signs = signs[:place] + "-" + signs[place + 1:]
        return signs

    def author(self):
        length = self.length(1, 38)
        signs = self.chance.choice("ABZ")
        while len(signs) < length:
            signs += self.chance.choice(("a", "b", "e", "M", " E", "-D", "'V"))
        return signs + self.chance.choice(("", "", "l"))

    def publish(self, told):
        count = self.chance.choice((1, 1, 2, 3, 6, 7, 8))
        told["authors"] = tuple(self.author() for author in range(count))
        told["year"] = self.chance.choice((1000, 2999, self.chance.randint(1000, 2999)))
        told["etal"] = self.chance.choice((0, 1)) if count == 1 else 0
        told["paren"] = self.chance.choice((0, 1)) if told["e1"] else 0

    def sound_value(self):
        told = value("", abbr=self.chance.choice((0, 1)))
        told["head"] = self.genus(1, 39) if told["abbr"] else self.genus()
        told["sub"] = self.chance.choice(("", self.genus()))
        choice = self.chance.randint(0, 4)
        if choice == 0:
            told["num"] = self.chance.choice((0, 1, 9999, self.chance.randint(0, 9999)))
        elif choice > 1 or told["abbr"]:
            told.update(e1=self.epithet(), q1=self.chance.choice(FIRST_MARKS))
            if self.chance.random() < 0.6:
                told.update(e2=self.epithet(), q2=self.chance.choice(SECOND_MARKS))
        if choice > 0 and self.chance.random() < 0.6:
            self.publish(told)
        return told

    def spoilt(self, signs):
        """The text with one byte put in, taken out or exchanged, or with its end cut off."""
        place = self.chance.randint(0, len(signs))
        byte = self.chance.choice("aefspxAHZ0129 .,()&-'%\n\x00\xff")
        return self.chance.choice((
            signs[:place],
            signs[:place] + byte + signs[place:],
            signs[:place] + byte + signs[place + 1:],
            signs[:place] + signs[place + 1:],
            signs + byte,
        ))

    def spoilt_value(self, told):
        """The value with one or two of its parts exchanged: perhaps it is sound all the same."""
        told = dict(told)
        for part in self.chance.sample(sorted(told), self.chance.choice((1, 1, 2))):
            if part == "authors":
                told[part] = self.chance.choice((
                    (), told[part][:1], told[part] + ("A",), (self.spoilt("Ab-C"),), (self.author(), self.spoilt("A B")),
                ))
            elif isinstance(told[part], str):
                told[part] = self.chance.choice(("", self.spoilt(told[part]), self.genus(), self.epithet(), "H", "ab"))
            else:
                told[part] = self.chance.choice((-1, 0, 0, 1, 1, 2, 3, 4, 6, 7, 999, 1000, 2999, 3000, 9999, 10000))
        return told
