"""Which genera and epithets of the lists a name may mean, and its endings put right."""

from namesread.folding import fold
from namesread.genera import number_of_genus
from namesread.names import counted
from namesread.reading import read_name
from namesread.scanner import NotRight
from namesread.writing import name_text

NO_SUB = -1
UNKNOWN_SUB = -2


# 0 if nothing is to be refused.
def listing_refusal(genera, name):
    if name.abbr == 1:
        return -1001
    if number_of_genus(genera, name.head) is None:
        return -1002
    if len(name.e1) == 0:
        return -1003
    return 0


# Who and mend refuse alike; answer tells what is answered of a name that isn't refused.
def answer_for_listed(genera, epithets, text, answer):
    try:
        name = read_name(text)
    except NotRight as wrong:
        return [-1 - wrong.place]
    refusal = listing_refusal(genera, name)
    if refusal < 0:
        return [refusal]
    return answer(genera, epithets, name)


def number_of_sub(genera, sub):
    if len(sub) == 0:
        return NO_SUB
    number = number_of_genus(genera, sub)
    if number is None:
        return UNKNOWN_SUB
    return number


def numbers_of_form(epithets, gender, text):
    return [number for number, epithet in enumerate(epithets) if epithet.forms[gender] == text]


def is_other_spelling(epithet, gender, text, folded):
    return epithet.folds[gender] == folded and epithet.forms[gender] != text


def numbers_of_other_spelling(epithets, gender, text):
    folded = fold(text)
    return [
        number for number, epithet in enumerate(epithets)
        if is_other_spelling(epithet, gender, text, folded)
    ]


# No form is empty and no fold of one: an epithet that the name hasn't got is matched by none.
def who_answer(genera, epithets, name):
    number = number_of_genus(genera, name.head)
    gender = genera[number].gender
    answer = [0, number, number_of_sub(genera, name.sub)]
    for text in [name.e1, name.e2]:
        answer.extend(counted(numbers_of_form(epithets, gender, text)))
        answer.extend(counted(numbers_of_other_spelling(epithets, gender, text)))
    return answer


def answer_who(genera, epithets, text):
    return answer_for_listed(genera, epithets, text, who_answer)


def put_right(epithets, gender, text):
    if len(numbers_of_form(epithets, gender, text)) > 0:
        return text
    for epithet in epithets:
        if text in epithet.forms:
            return epithet.forms[gender]
    return text


def mend_answer(genera, epithets, name):
    gender = genera[number_of_genus(genera, name.head)].gender
    name.e1 = put_right(epithets, gender, name.e1)
    name.e2 = put_right(epithets, gender, name.e2)
    return [0] + name_text(name)


def answer_mend(genera, epithets, text):
    return answer_for_listed(genera, epithets, text, mend_answer)
