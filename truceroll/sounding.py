"""All least clashes and greatest peaces that an asker knows of, found with few askings."""

from truceroll.asking import grown
from truceroll.sets import greatest_of, is_part, least_of, parts_of


def sounded(whole, ask):
    sounding = Sounding(ask, parts_of(whole))
    while len(sounding.unknown) > 0:
        # If it clashes, it is a least clash: its own parts come ahead of it, so they are known, and none of them
        # clashes, else it would be known too. If it is peaceful, growing it leads to a new greatest peace. So each
        # turn finds one, and asks at most once for each member and once more.
        first = sounding.unknown[0]
        if sounding.tells(first):
            grown(whole, lambda part: sounding.tells(part), first)
    # The answer for a least clash or a greatest peace follows from none but its own, so each was asked about.
    clashes = [part for part in sounding.askings if not sounding.known[part]]
    peaces = [part for part in sounding.askings if sounding.known[part]]
    return (least_of(clashes), greatest_of(peaces), sounding.askings)


class Sounding:
    # Keeps what follows from the answers, so that the asker is asked about nothing else.

    def __init__(self, ask, parts):
        self.ask = ask
        self.askings = []
        self.known = {}
        self.unknown = parts

    def tells(self, part):
        if part not in self.known:
            self.askings.append(part)
            self.learn(part, self.ask(part))
        return self.known[part]

    def learn(self, part, peaceful):
        left = []
        for other in self.unknown:
            if (peaceful and is_part(other, part)) or (not peaceful and is_part(part, other)):
                self.known[other] = peaceful
            else:
                left.append(other)
        self.unknown = left
