"""Citing a name from the lists of genera and epithets."""

from namesread.authors import is_authorship, is_no_authorship
from namesread.epithets import is_epithet_number
from namesread.genera import is_genus_number
from namesread.names import Name
from namesread.writing import name_text

ABSENT = -1


# What is asked for by numbers, before it's known whether there is any such thing.
class Citation:
    def __init__(self, numbers, authors):
        self.genus = numbers[0]
        self.sub = numbers[1]
        self.e1 = numbers[2]
        self.e2 = numbers[3]
        self.first = numbers[4]
        self.year = numbers[5]
        self.etal = numbers[6]
        self.authors = authors


def is_published_right(citation):
    if citation.first == ABSENT:
        return is_no_authorship(citation.authors, citation.etal, citation.year)
    return is_authorship(citation.authors, citation.etal, citation.year)


# 0 if nothing is to be refused.
def citation_refusal(genera, epithets, citation):
    if not is_genus_number(genera, citation.genus):
        return -1
    if citation.sub != ABSENT and not is_genus_number(genera, citation.sub):
        return -2
    if not is_epithet_number(epithets, citation.e1):
        return -3
    if citation.e2 != ABSENT and not is_epithet_number(epithets, citation.e2):
        return -4
    if citation.first != ABSENT and not is_genus_number(genera, citation.first):
        return -5
    if not is_published_right(citation):
        return -6
    return 0


def cited_name(genera, epithets, citation):
    name = Name()
    genus = genera[citation.genus]
    name.head = genus.text
    if citation.sub != ABSENT:
        name.sub = genera[citation.sub].text
    name.e1 = epithets[citation.e1].forms[genus.gender]
    if citation.e2 != ABSENT:
        name.e2 = epithets[citation.e2].forms[genus.gender]
    if citation.first not in (ABSENT, citation.genus):
        name.paren = 1
    name.etal = citation.etal
    name.year = citation.year
    name.authors = citation.authors
    return name


def answer_cite(genera, epithets, numbers, authors):
    citation = Citation(numbers, authors)
    refusal = citation_refusal(genera, epithets, citation)
    if refusal < 0:
        return [refusal]
    return [0] + name_text(cited_name(genera, epithets, citation))
