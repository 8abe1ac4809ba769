"""The list of genera, and the calls that ask or change it."""

from namesread.genders import is_gender
from namesread.signs import bytes_of
from namesread.words import is_genus_text

MOST_GENERA = 200
LONGEST_STEM = 35
FAMILY_ENDINGS = ("oidea", "idae", "inae", "ini", "ina")


class Genus:
    def __init__(self, text, gender, stem):
        self.text = text
        self.gender = gender
        self.stem = stem


def is_genus_number(genera, number):
    return 0 <= number < len(genera)


# None where no genus has this text.
def number_of_genus(genera, text):
    for number, genus in enumerate(genera):
        if genus.text == text:
            return number
    return None


def answer_genus(genera, gender, stem, text):
    if not is_genus_text(text):
        return [-1]
    if not is_gender(gender):
        return [-2]
    if stem < 1 or stem > min(LONGEST_STEM, len(text)):
        return [-3]
    if number_of_genus(genera, text) is not None:
        return [-4]
    if len(genera) >= MOST_GENERA:
        return [-5]
    genera.append(Genus(text, gender, stem))
    return [len(genera) - 1]


def family_text(genus, rank):
    return genus.text[:genus.stem] + bytes_of(FAMILY_ENDINGS[rank])


def answer_family(genera, number, rank):
    if not is_genus_number(genera, number):
        return [-1]
    if rank < 0 or rank >= len(FAMILY_ENDINGS):
        return [-2]
    return [0] + family_text(genera[number], rank)


def answer_families(genera, text):
    pairs = []
    for number, genus in enumerate(genera):
        for rank in range(len(FAMILY_ENDINGS)):
            if family_text(genus, rank) == text:
                pairs.extend([number, rank])
    return [len(pairs) // 2] + pairs


def answer_turn(genera, number, gender):
    if not is_genus_number(genera, number):
        return [-1]
    if not is_gender(gender):
        return [-2]
    before = genera[number].gender
    genera[number].gender = gender
    return [before]
