"""A name's value: seven whole numbers, four texts and the authors."""


class Name:
    def __init__(self):
        self.abbr = 0
        self.q1 = 0
        self.q2 = 0
        self.num = -1
        self.paren = 0
        self.etal = 0
        self.year = 0
        self.head = []
        self.sub = []
        self.e1 = []
        self.e2 = []
        self.authors = []


def numbers_of(name):
    return [name.abbr, name.q1, name.q2, name.num, name.paren, name.etal, name.year]


def texts_of(name):
    return [name.head, name.sub, name.e1, name.e2] + name.authors


# The numbers and texts stand in the order in which numbers_of and texts_of give them.
def name_of(numbers, texts):
    name = Name()
    name.abbr = numbers[0]
    name.q1 = numbers[1]
    name.q2 = numbers[2]
    name.num = numbers[3]
    name.paren = numbers[4]
    name.etal = numbers[5]
    name.year = numbers[6]
    name.head = texts[0]
    name.sub = texts[1]
    name.e1 = texts[2]
    name.e2 = texts[3]
    name.authors = texts[4:]
    return name


def with_head(name, abbr, head):
    other = name_of(numbers_of(name), texts_of(name))
    other.abbr = abbr
    other.head = head
    return other


def counted(row):
    return [len(row)] + row


def value_answer(name):
    answer = [0] + numbers_of(name)
    for text in [name.head, name.sub, name.e1, name.e2]:
        answer.extend(counted(text))
    answer.append(len(name.authors))
    for author in name.authors:
        answer.extend(counted(author))
    return answer
