"""Heaps of sayings: whether a thing is one, and the heap in the order of its labels."""

from truceroll.errors import BadHeap
from truceroll.rules import is_rule, names_of_all
from truceroll.things import is_whole_number

MOST_SAYINGS = 10
MOST_NAMES_IN_ALL = 12


def heap_of(thing):
    if not isinstance(thing, list) or len(thing) > MOST_SAYINGS:
        raise BadHeap(0)
    heap = []
    for place, saying in enumerate(thing, start=1):
        if not is_saying(saying) or not fits(saying, heap):
            raise BadHeap(place)
        heap.append(saying)
    return sorted(heap, key=label_of)


def is_label(thing):
    return is_whole_number(thing) and 1 <= thing <= 10 ** 18


def is_saying(thing):
    return isinstance(thing, tuple) and len(thing) == 2 and is_label(thing[0]) and is_rule(thing[1])


def fits(saying, heap):
    if label_of(saying) in [label_of(ahead) for ahead in heap]:
        return False
    names = names_of_all([rule_of(ahead) for ahead in heap + [saying]])
    return len(names) <= MOST_NAMES_IN_ALL


def label_of(saying):
    return saying[0]


def rule_of(saying):
    return saying[1]


def rules_beside(firm, heap, part):
    # The firm rules and, behind them, the sayings with the labels of the set from the least on: the row of all papers.
    sayings = [saying for saying in heap if label_of(saying) in part]
    return firm + [rule_of(saying) for saying in sorted(sayings, key=label_of)]
