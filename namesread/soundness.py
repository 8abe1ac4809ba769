"""Which values are sound, so that a name can be written from them."""

from namesread.authors import is_authorship, is_no_authorship
from namesread.marks import FIRST_MARKS, SECOND_MARKS
from namesread.words import is_epithet_text, is_genus_text, is_short_head

GREATEST_NUMBER = 9999


def is_head_sound(name):
    if name.abbr == 0:
        return is_genus_text(name.head)
    return name.abbr == 1 and is_short_head(name.head) and (len(name.e1) > 0 or name.num >= 0)


def is_sub_sound(name):
    return len(name.sub) == 0 or is_genus_text(name.sub)


def is_number_sound(name):
    if name.num == -1:
        return True
    return 0 <= name.num <= GREATEST_NUMBER and len(name.e1) == 0 and len(name.authors) == 0


def is_marked_epithet(mark, marks, epithet):
    if len(epithet) == 0:
        return mark == 0
    return is_epithet_text(epithet) and (mark == 0 or mark in marks)


def are_epithets_sound(name):
    if len(name.e1) == 0 and len(name.e2) > 0:
        return False
    return is_marked_epithet(name.q1, FIRST_MARKS, name.e1) and is_marked_epithet(name.q2, SECOND_MARKS, name.e2)


def is_publication_sound(name):
    if is_no_authorship(name.authors, name.etal, name.year):
        return name.paren == 0
    if name.paren not in (0, 1) or (name.paren == 1 and len(name.e1) == 0):
        return False
    return is_authorship(name.authors, name.etal, name.year)


def is_sound(name):
    parts = [is_head_sound(name), is_sub_sound(name), is_number_sound(name), are_epithets_sound(name)]
    return all(parts) and is_publication_sound(name)
