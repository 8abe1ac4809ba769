"""The fold of a text: what is left of it when spellings that count as one are made one."""

from namesread.signs import HYPHEN, is_small

ALPHABET = "abcdefghijklmnopqrstuvwxyz"
EXCHANGED = {"j": "i", "y": "i", "v": "u", "k": "c"}
PAIRS = {
    "ae": "e",
    "oe": "e",
    "ph": "f",
    "pf": "f",
    "ch": "c",
    "th": "t",
    "rh": "r",
    "ct": "t",
    "bb": "b",
    "cc": "c",
    "dd": "d",
    "ff": "f",
    "gg": "g",
    "ii": "i",
    "ll": "l",
    "mm": "m",
    "nn": "n",
    "pp": "p",
    "qq": "q",
    "rr": "r",
    "ss": "s",
    "tt": "t",
    "xx": "x",
    "zz": "z",
}


def can_be_folded(text):
    return all([byte == HYPHEN or is_small(byte) for byte in text])


def exchanged_letters(text):
    letters = [ALPHABET[byte - 97] for byte in text if byte != HYPHEN]
    return [EXCHANGED.get(letter, letter) for letter in letters]


# A letter put in for a pair may make a pair with the letter before it, and so on backwards.
def put_letter(folded, letter):
    while len(folded) > 0 and folded[-1] + letter in PAIRS:
        letter = PAIRS[folded.pop() + letter]
    folded.append(letter)


# The order of replacing is free, so going once from left to right will do:
# what lies in folded never holds a pair.
def fold(text):
    folded = []
    for letter in exchanged_letters(text):
        put_letter(folded, letter)
    return [ord(letter) for letter in folded]


def answer_fold(text):
    if not can_be_folded(text):
        return [-1]
    return [0] + fold(text)
