"""The paper that's read, line by line, and its index."""

from namesread.heads import Heads
from namesread.names import counted, value_answer, with_head
from namesread.reading import read_name
from namesread.scanner import NotRight
from namesread.signs import LINE_END
from namesread.writing import entry_text

MOST_NAMES = 300


class Paper:
    def __init__(self):
        self.unfinished = []
        self.lines_ended = 0
        self.names = []
        self.name_lines = []
        self.heads = Heads()

    def end_line(self):
        line = self.unfinished
        self.unfinished = []
        self.lines_ended += 1
        return line

    def take_name(self, name):
        self.names.append(name)
        self.name_lines.append(self.lines_ended)
        self.heads.learn(name.head)


def whole_outcome(paper, name):
    paper.take_name(name)
    return value_answer(name)


def short_outcome(paper, name):
    meant = paper.heads.meant_by(name.head)
    if len(meant) == 0:
        return [-1001]
    if len(meant) > 1:
        return [-1002]
    return whole_outcome(paper, with_head(name, 0, meant[0]))


def outcome_of_line(paper):
    line = paper.end_line()
    if len(paper.names) >= MOST_NAMES:
        return [-1003]
    try:
        name = read_name(line)
    except NotRight as wrong:
        return [-1 - wrong.place]
    if name.abbr == 0:
        return whole_outcome(paper, name)
    return short_outcome(paper, name)


def answer_feed(paper, text):
    count = 0
    outcomes = []
    for byte in text:
        if byte == LINE_END:
            count += 1
            outcomes.extend(outcome_of_line(paper))
        else:
            paper.unfinished.append(byte)
    return [count] + outcomes


# The paper is done with then: the desk takes a new one.
def answer_last(paper):
    if len(paper.unfinished) == 0:
        return [0]
    return [1] + outcome_of_line(paper)


def lines_by_entry(paper):
    lines = {}
    for name, line in zip(paper.names, paper.name_lines):
        lines.setdefault(tuple(entry_text(name)), []).append(line)
    return lines


def answer_index(paper):
    lines = lines_by_entry(paper)
    answer = [len(lines)]
    for entry in sorted(lines):
        answer.extend(counted(list(entry)))
        answer.extend(counted(lines[entry]))
    return answer
