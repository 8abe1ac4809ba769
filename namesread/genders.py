"""Genders, and the endings of epithets in them."""

from namesread.signs import bytes_of

GENDERS = 3
KINDS = 8
ENDINGS = (
    ("", "", ""),
    ("us", "a", "um"),
    ("er", "ra", "rum"),
    ("er", "era", "erum"),
    ("is", "is", "e"),
    ("er", "ris", "re"),
    ("or", "or", "us"),
    ("os", "e", "on"),
)


def is_gender(number):
    return 0 <= number < GENDERS


def is_kind(number):
    return 0 <= number < KINDS


def ends_in(text, ending):
    return len(text) >= len(ending) and text[len(text) - len(ending):] == bytes_of(ending)


# None, not an empty text, where no ending fits: a stem may be empty.
def stem_of(kind, text):
    for ending in ENDINGS[kind]:
        if ends_in(text, ending):
            return text[:len(text) - len(ending)]
    return None


def forms_of(kind, stem):
    return [stem + bytes_of(ending) for ending in ENDINGS[kind]]
