"""Bytes: the signs that texts are made of, as whole numbers."""

LINE_END = 10
BLANK = 32
APOSTROPHE = 39
OPENING = 40
COMMA = 44
HYPHEN = 45
DOT = 46
SMALL_E = 101


def is_small(byte):
    return 97 <= byte <= 122


def is_capital(byte):
    return 65 <= byte <= 90


def is_letter(byte):
    return is_small(byte) or is_capital(byte)


def is_digit(byte):
    return 48 <= byte <= 57


# What stands between two parts of an author's name.
def is_joint(byte):
    return byte in (BLANK, HYPHEN, APOSTROPHE)


def bytes_of(signs):
    return [ord(sign) for sign in signs]
