"""Scanning the words and numbers of a name."""

from namesread.scanner import NotRight
from namesread.signs import BLANK, HYPHEN, is_capital, is_digit, is_joint, is_letter, is_small
from namesread.words import LONGEST_WORD, SHORTEST_WORD

LONGEST_NUMBER = 4


def scan_capital(scanner):
    if not is_capital(scanner.ahead()):
        raise NotRight(scanner.place)
    scanner.advance()


# A genus text or a short head: which of them, and so how short it may be, is told by what follows.
def scan_capital_word(scanner):
    start = scanner.place
    scan_capital(scanner)
    while is_small(scanner.ahead()) and scanner.place - start < LONGEST_WORD:
        scanner.advance()
    return scanner.since(start)


def scan_genus_text(scanner):
    word = scan_capital_word(scanner)
    if len(word) < SHORTEST_WORD:
        raise NotRight(scanner.place)
    return word


# A hyphen needs a letter behind it, so it can't be the last byte that still fits.
def epithet_goes_on(scanner, word):
    if scanner.ahead() == HYPHEN:
        return 0 < len(word) < LONGEST_WORD - 1 and HYPHEN not in word
    return is_small(scanner.ahead()) and len(word) < LONGEST_WORD


def scan_epithet(scanner):
    word = []
    while epithet_goes_on(scanner, word):
        word.append(scanner.ahead())
        scanner.advance()
    if len(word) < SHORTEST_WORD or word[-1] == HYPHEN:
        raise NotRight(scanner.place)
    return word


def scan_author_letters(scanner, start):
    while is_letter(scanner.ahead()) and scanner.place - start < LONGEST_WORD:
        scanner.advance()


# A blank behind an author who isn't the last may also stand before "&" or "et al.":
# it is left to these unless a capital follows.
def author_goes_on(scanner, start, is_last):
    if scanner.place - start >= LONGEST_WORD - 1:
        return False
    if scanner.ahead() == BLANK and not is_last:
        return is_capital(scanner.further(1))
    return is_joint(scanner.ahead())


def scan_author(scanner, is_last):
    start = scanner.place
    scan_capital(scanner)
    scan_author_letters(scanner, start)
    while author_goes_on(scanner, start, is_last):
        scanner.advance()
        scan_capital(scanner)
        scan_author_letters(scanner, start)
    return scanner.since(start)


def scan_number(scanner):
    if not is_digit(scanner.ahead()) or scanner.begins("0"):
        raise NotRight(scanner.place)
    start = scanner.place
    number = 0
    while is_digit(scanner.ahead()) and scanner.place - start < LONGEST_NUMBER:
        number = number * 10 + scanner.ahead() - 48
        scanner.advance()
    return number


def scan_year(scanner):
    if not scanner.begins("1") and not scanner.begins("2"):
        raise NotRight(scanner.place)
    year = scan_number(scanner)
    if year < 1000:
        raise NotRight(scanner.place)
    return year
