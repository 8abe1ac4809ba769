"""The paper that's written: every head is shortened as much as can be."""

from namesread.heads import Heads, shortest_for
from namesread.names import with_head
from namesread.soundness import is_sound
from namesread.writing import name_text

MOST_TOLD = 300


# Of the names told only their heads matter to those that come.
class Draft:
    def __init__(self):
        self.told = 0
        self.heads = Heads()


def shortened(heads, name):
    if len(name.e1) == 0 and name.num < 0:
        return name
    short = shortest_for(heads, name.head)
    if short is None:
        return name
    return with_head(name, 1, short)


def answer_tell(draft, name):
    if not is_sound(name) or name.abbr != 0:
        return [-1]
    if draft.told >= MOST_TOLD:
        return [-2]
    line = name_text(shortened(draft.heads, name))
    draft.heads.learn(name.head)
    draft.told += 1
    return [0] + line
