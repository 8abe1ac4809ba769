"""The list of epithets, and the calls that ask it."""

from namesread.folding import fold
from namesread.genders import forms_of, is_gender, is_kind, stem_of
from namesread.words import is_epithet_text

MOST_EPITHETS = 200


# An epithet never changes, so its folds are made once and not at every question.
class Epithet:
    def __init__(self, forms):
        self.forms = forms
        self.folds = [fold(form) for form in forms]


def is_epithet_number(epithets, number):
    return 0 <= number < len(epithets)


def answer_epithet(epithets, kind, text):
    if not is_epithet_text(text):
        return [-1]
    if not is_kind(kind):
        return [-2]
    stem = stem_of(kind, text)
    if stem is None:
        return [-3]
    forms = forms_of(kind, stem)
    if not all([is_epithet_text(form) for form in forms]):
        return [-4]
    if len(epithets) >= MOST_EPITHETS:
        return [-5]
    epithets.append(Epithet(forms))
    return [len(epithets) - 1]


def answer_form(epithets, number, gender):
    if not is_epithet_number(epithets, number):
        return [-1]
    if not is_gender(gender):
        return [-2]
    return [0] + epithets[number].forms[gender]


def answer_alike(epithets, one, other, gender):
    if not is_epithet_number(epithets, one):
        return [-1]
    if not is_epithet_number(epithets, other):
        return [-2]
    if not is_gender(gender):
        return [-3]
    if epithets[one].folds[gender] == epithets[other].folds[gender]:
        return [1]
    return [0]


def answer_classes(epithets, gender):
    if not is_gender(gender):
        return [-1]
    least = {}
    classes = []
    for number, epithet in enumerate(epithets):
        classes.append(least.setdefault(tuple(epithet.folds[gender]), number))
    return [len(epithets)] + classes
