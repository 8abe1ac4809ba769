"""Reading a text as the value that it is written from."""

from namesread.authors import MOST_AUTHORS
from namesread.marks import FIRST_MARKS, MARKS, SECOND_MARKS
from namesread.names import Name, value_answer
from namesread.scanner import NotRight, Scanner, pass_signs
from namesread.scanwords import scan_author, scan_capital_word, scan_epithet, scan_genus_text, scan_number, scan_year
from namesread.signs import BLANK, COMMA, DOT, OPENING, SMALL_E, is_capital, is_small
from namesread.words import LONGEST_WORD, SHORTEST_WORD

# As much of a mark as no epithet begins with: from there on it can only be the mark.
TELLING_SIGNS = ("", "cf.", "aff.", "x ", "subsp.", "var.", "f.")


def read_head(scanner, name):
    name.head = scan_capital_word(scanner)
    if scanner.ahead() == DOT and len(name.head) < LONGEST_WORD:
        scanner.advance()
        name.abbr = 1
    elif len(name.head) < SHORTEST_WORD:
        raise NotRight(scanner.place)


def read_sub(scanner, name):
    pass_signs(scanner, "(")
    name.sub = scan_genus_text(scanner)
    pass_signs(scanner, ")")


def read_unnamed(scanner, name):
    pass_signs(scanner, "sp.")
    name.num = 0
    if scanner.ahead() == BLANK:
        scanner.advance()
        name.num = scan_number(scanner)


def read_mark(scanner, marks):
    for mark in marks:
        if scanner.begins(TELLING_SIGNS[mark]):
            pass_signs(scanner, MARKS[mark])
            return mark
    return 0


def read_epithets(scanner, name):
    name.q1 = read_mark(scanner, FIRST_MARKS)
    name.e1 = scan_epithet(scanner)
    if scanner.is_done():
        return
    pass_signs(scanner, " ")
    if is_small(scanner.ahead()):
        name.q2 = read_mark(scanner, SECOND_MARKS)
        name.e2 = scan_epithet(scanner)
        if scanner.is_done():
            return
        pass_signs(scanner, " ")
    read_publication(scanner, name)


# One more author must still fit behind those that a comma goes before.
def read_other_authors(scanner, name):
    while scanner.ahead() == COMMA and len(name.authors) < MOST_AUTHORS - 1:
        pass_signs(scanner, ", ")
        name.authors.append(scan_author(scanner, False))
    pass_signs(scanner, " & ")
    name.authors.append(scan_author(scanner, True))


# Behind a comma and a blank, a capital tells another author from the year.
def read_authorship(scanner, name):
    name.authors.append(scan_author(scanner, False))
    if scanner.ahead() == BLANK and scanner.further(1) == SMALL_E:
        pass_signs(scanner, " et al.")
        name.etal = 1
    elif scanner.ahead() == BLANK or is_capital(scanner.further(2)):
        read_other_authors(scanner, name)
    pass_signs(scanner, ", ")
    name.year = scan_year(scanner)


def read_publication(scanner, name):
    if scanner.ahead() == OPENING and len(name.e1) > 0:
        scanner.advance()
        name.paren = 1
    read_authorship(scanner, name)
    if name.paren == 1:
        pass_signs(scanner, ")")


# What stands behind head and sub: a short head alone has no authors of its own.
def read_rest(scanner, name):
    if scanner.begins("sp."):
        read_unnamed(scanner, name)
    elif is_small(scanner.ahead()):
        read_epithets(scanner, name)
    elif name.abbr == 0:
        read_publication(scanner, name)
    else:
        raise NotRight(scanner.place)


def may_end_here(scanner, name):
    return scanner.is_done() and name.abbr == 0


def read_name(text):
    scanner = Scanner(text)
    name = Name()
    read_head(scanner, name)
    if may_end_here(scanner, name):
        return name
    pass_signs(scanner, " ")
    if scanner.ahead() == OPENING:
        read_sub(scanner, name)
        if may_end_here(scanner, name):
            return name
        pass_signs(scanner, " ")
    read_rest(scanner, name)
    if not scanner.is_done():
        raise NotRight(scanner.place)
    return name


def answer_read(text):
    try:
        name = read_name(text)
    except NotRight as wrong:
        return [-1 - wrong.place]
    return value_answer(name)
