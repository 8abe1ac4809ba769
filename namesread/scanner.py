"""Going through a text byte by byte, up to the place at which it goes wrong.

A byte is stepped over only if what lies behind the scanner is then still
a beginning of some right text. So the place at which a reader gives up
is the length of the longest such beginning.
"""

from namesread.signs import bytes_of

# No byte, so it is no letter, no digit and equal to no sign.
END = -1


class NotRight(ValueError):
    def __init__(self, place):
        ValueError.__init__(self, place)
        self.place = place


class Scanner:
    def __init__(self, text):
        self.text = text
        self.place = 0

    def is_done(self):
        return self.place >= len(self.text)

    def ahead(self):
        return self.further(0)

    def further(self, distance):
        if self.place + distance >= len(self.text):
            return END
        return self.text[self.place + distance]

    def advance(self):
        self.place += 1

    def since(self, start):
        return self.text[start:self.place]

    def begins(self, signs):
        wanted = bytes_of(signs)
        return self.text[self.place:self.place + len(wanted)] == wanted


def pass_signs(scanner, signs):
    for byte in bytes_of(signs):
        if scanner.ahead() != byte:
            raise NotRight(scanner.place)
        scanner.advance()
