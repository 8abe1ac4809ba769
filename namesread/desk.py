"""The desk: a list of calls is answered, call by call, on one object that is new."""

from namesread.citing import answer_cite
from namesread.epithets import answer_alike, answer_classes, answer_epithet, answer_form
from namesread.folding import answer_fold
from namesread.genera import answer_families, answer_family, answer_genus, answer_turn
from namesread.matching import answer_mend, answer_who
from namesread.names import name_of
from namesread.papers import Paper, answer_feed, answer_index, answer_last
from namesread.reading import answer_read
from namesread.telling import Draft, answer_tell
from namesread.writing import answer_write


class Desk:
    def __init__(self):
        self.genera = []
        self.epithets = []
        self.paper = Paper()
        self.draft = Draft()


# Goes through the list that is handed in; what it gives out are copies.
class Tape:
    def __init__(self, numbers):
        self.numbers = numbers
        self.place = 0

    def has_more(self):
        return self.place < len(self.numbers)

    def take(self):
        self.place += 1
        return self.numbers[self.place - 1]

    def take_row(self):
        count = self.take()
        self.place += count
        return self.numbers[self.place - count:self.place]

    def take_rows(self):
        count = self.take()
        rows = []
        while len(rows) < count:
            rows.append(self.take_row())
        return rows


def call_genus(desk, numbers, texts):
    return answer_genus(desk.genera, numbers[0], numbers[1], texts[0])


def call_epithet(desk, numbers, texts):
    return answer_epithet(desk.epithets, numbers[0], texts[0])


def call_form(desk, numbers, texts):
    return answer_form(desk.epithets, numbers[0], numbers[1])


def call_fold(desk, numbers, texts):
    return answer_fold(texts[0])


def call_alike(desk, numbers, texts):
    return answer_alike(desk.epithets, numbers[0], numbers[1], numbers[2])


def call_classes(desk, numbers, texts):
    return answer_classes(desk.epithets, numbers[0])


def call_family(desk, numbers, texts):
    return answer_family(desk.genera, numbers[0], numbers[1])


def call_families(desk, numbers, texts):
    return answer_families(desk.genera, texts[0])


def call_turn(desk, numbers, texts):
    return answer_turn(desk.genera, numbers[0], numbers[1])


def call_read(desk, numbers, texts):
    return answer_read(texts[0])


def call_write(desk, numbers, texts):
    return answer_write(name_of(numbers, texts))


def call_cite(desk, numbers, texts):
    return answer_cite(desk.genera, desk.epithets, numbers, texts)


def call_who(desk, numbers, texts):
    return answer_who(desk.genera, desk.epithets, texts[0])


def call_mend(desk, numbers, texts):
    return answer_mend(desk.genera, desk.epithets, texts[0])


def call_feed(desk, numbers, texts):
    return answer_feed(desk.paper, texts[0])


def call_last(desk, numbers, texts):
    answer = answer_last(desk.paper)
    desk.paper = Paper()
    return answer


def call_index(desk, numbers, texts):
    return answer_index(desk.paper)


def call_tell(desk, numbers, texts):
    return answer_tell(desk.draft, name_of(numbers, texts))


def call_fresh(desk, numbers, texts):
    told = desk.draft.told
    desk.draft = Draft()
    return [told]


# Each stands at the place that is its number.
CALLS = (
    call_genus,
    call_epithet,
    call_form,
    call_fold,
    call_alike,
    call_classes,
    call_family,
    call_families,
    call_turn,
    call_read,
    call_write,
    call_cite,
    call_who,
    call_mend,
    call_feed,
    call_last,
    call_index,
    call_tell,
    call_fresh,
)


def answers(calls):
    desk = Desk()
    tape = Tape(calls)
    given = []
    while tape.has_more():
        call = CALLS[tape.take()]
        numbers = tape.take_row()
        texts = tape.take_rows()
        answer = call(desk, numbers, texts)
        given.append(len(answer))
        given.extend(answer)
    return given
