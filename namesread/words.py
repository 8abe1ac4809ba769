"""Genus texts and epithet texts: how long they are, and what they hold."""

from namesread.signs import HYPHEN, is_capital, is_small

SHORTEST_WORD = 2
LONGEST_WORD = 40


def has_word_length(text):
    return SHORTEST_WORD <= len(text) <= LONGEST_WORD


def are_small(text):
    return all([is_small(byte) for byte in text])


def is_genus_text(text):
    return has_word_length(text) and is_capital(text[0]) and are_small(text[1:])


def is_epithet_text(text):
    if not has_word_length(text):
        return False
    if text[0] == HYPHEN or text[-1] == HYPHEN or text.count(HYPHEN) > 1:
        return False
    return are_small([byte for byte in text if byte != HYPHEN])
