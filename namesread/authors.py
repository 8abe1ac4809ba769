"""Who published a name, and when: what is right of it, and how it is written."""

from namesread.signs import bytes_of
from namesread.words import is_author_text

MOST_AUTHORS = 8
FIRST_YEAR = 1000
LAST_YEAR = 2999


def are_authors(authors):
    return 1 <= len(authors) <= MOST_AUTHORS and all([is_author_text(author) for author in authors])


def is_authorship(authors, etal, year):
    if not are_authors(authors):
        return False
    if etal not in (0, 1) or (etal == 1 and len(authors) > 1):
        return False
    return FIRST_YEAR <= year <= LAST_YEAR


def is_no_authorship(authors, etal, year):
    return len(authors) == 0 and etal == 0 and year == 0


def joined_authors(authors):
    text = list(authors[0])
    for author in authors[1:-1]:
        text.extend(bytes_of(", ") + author)
    if len(authors) > 1:
        text.extend(bytes_of(" & ") + authors[-1])
    return text


def authorship_text(authors, etal, year):
    text = joined_authors(authors)
    if etal == 1:
        text.extend(bytes_of(" et al."))
    return text + bytes_of(", " + str(year))
