"""A name's value: seven whole numbers, four texts and the authors."""


class Name:
    def __init__(self):
        self.abbr = 0
        self.q1 = 0
        self.q2 = 0
        self.num = -1
        self.paren = 0
        self.etal = 0
        self.year = 0
        self.head = []
        self.sub = []
        self.e1 = []
        self.e2 = []
        self.authors = []


def counted(text):
    return [len(text)] + text


def value_answer(name):
    answer = [0, name.abbr, name.q1, name.q2, name.num, name.paren, name.etal, name.year]
    for text in [name.head, name.sub, name.e1, name.e2]:
        answer.extend(counted(text))
    answer.append(len(name.authors))
    for author in name.authors:
        answer.extend(counted(author))
    return answer
