"""The heads of a paper's names, and which of them a short head may mean."""


# For every short head all that it may mean is kept, so that it's found without going through the names.
class Heads:
    def __init__(self):
        self.known = {}
        self.meant = {}

    def learn(self, head):
        if tuple(head) in self.known:
            return
        self.known[tuple(head)] = True
        for length in range(1, len(head)):
            self.meant.setdefault(tuple(head[:length]), []).append(head)

    def meant_by(self, short):
        return list(self.meant.get(tuple(short), []))


# None where no beginning means this head and no other.
def shortest_for(heads, head):
    for length in range(1, len(head)):
        if heads.meant_by(head[:length]) == [head]:
            return head[:length]
    return None
