"""Genus texts, short heads, epithet texts and author texts: how long they are, and what they hold."""

from namesread.signs import HYPHEN, is_capital, is_joint, is_letter, is_small

SHORTEST_WORD = 2
LONGEST_WORD = 40


def has_word_length(text):
    return SHORTEST_WORD <= len(text) <= LONGEST_WORD


def are_small(text):
    return all([is_small(byte) for byte in text])


def is_genus_text(text):
    return has_word_length(text) and is_capital(text[0]) and are_small(text[1:])


# A byte shorter than a genus text at both ends: at least the last letter was taken away.
def is_short_head(text):
    return 1 <= len(text) < LONGEST_WORD and is_capital(text[0]) and are_small(text[1:])


def is_epithet_text(text):
    if not has_word_length(text):
        return False
    if text[0] == HYPHEN or text[-1] == HYPHEN or text.count(HYPHEN) > 1:
        return False
    return are_small([byte for byte in text if byte != HYPHEN])


# A capital is needed at first and behind each joint; so a joint, and nothing at all, can't be the end.
def is_author_text(text):
    needs_capital = True
    for byte in text:
        if needs_capital and not is_capital(byte):
            return False
        if not is_letter(byte) and not is_joint(byte):
            return False
        needs_capital = is_joint(byte)
    return not needs_capital and len(text) <= LONGEST_WORD
