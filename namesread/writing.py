"""Writing a sound value as a text."""

from namesread.authors import authorship_text
from namesread.marks import MARKS
from namesread.signs import DOT, bytes_of
from namesread.soundness import is_sound


def bracketed(text):
    return bytes_of("(") + text + bytes_of(")")


def unnamed_text(num):
    if num == 0:
        return bytes_of(" sp.")
    return bytes_of(" sp. " + str(num))


def epithet_text(mark, epithet):
    return bytes_of(" " + MARKS[mark]) + epithet


# All of a name but who published it: by this an index tells names apart.
def entry_text(name):
    text = list(name.head)
    if name.abbr == 1:
        text.append(DOT)
    if len(name.sub) > 0:
        text.extend(bytes_of(" ") + bracketed(name.sub))
    if name.num >= 0:
        text.extend(unnamed_text(name.num))
    if len(name.e1) > 0:
        text.extend(epithet_text(name.q1, name.e1))
    if len(name.e2) > 0:
        text.extend(epithet_text(name.q2, name.e2))
    return text


def publication_text(name):
    text = authorship_text(name.authors, name.etal, name.year)
    if name.paren == 1:
        text = bracketed(text)
    return bytes_of(" ") + text


def name_text(name):
    if len(name.authors) == 0:
        return entry_text(name)
    return entry_text(name) + publication_text(name)


def answer_write(name):
    if not is_sound(name):
        return [-1]
    return [0] + name_text(name)
