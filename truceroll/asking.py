"""With an asker that tells of sets whether they are peaceful, a set is grown or shrunk."""

from truceroll.errors import NoClash, NoPeace
from truceroll.sets import rest_of, set_of


def grown(whole, ask, part):
    if not ask(part):
        raise NoPeace(part)
    peace = part
    for member in rest_of(whole, part):
        more = set_of(peace + (member,))
        if ask(more):
            peace = more
    return peace


def shrunk(ask, part):
    if ask(part):
        raise NoClash(part)
    clash = part
    for member in part:
        fewer = rest_of(clash, (member,))
        if not ask(fewer):
            clash = fewer
    return clash
