"""Trees: whether one is good for clashes and peaces, and one that is, or the first set that they leave open."""

from truceroll.sets import holds_one_of, is_part, is_set, lies_in_one_of, parts_of, rest_of
from truceroll.things import is_whole_number, is_worded


def is_tree(whole, clashes, peaces, thing):
    return TreeReader(whole, clashes, peaces).lets_by(thing, (), ())


class TreeReader:
    def __init__(self, whole, clashes, peaces):
        self.whole = whole
        self.clash_list = clashes
        self.peace_list = peaces

    def lets_by(self, thing, held, lacked):
        # Held and lacked are the members asked about on the way here; none is asked about twice, which ends the walk
        # in things that are nested however deep.
        if is_worded(thing, "clash", 2):
            return is_set(thing[1]) and thing[1] in self.clash_list and is_part(thing[1], held)
        if is_worded(thing, "peace", 2):
            return is_set(thing[1]) and thing[1] in self.peace_list and is_part(rest_of(self.whole, thing[1]), lacked)
        if not is_worded(thing, "ask", 4) or not is_whole_number(thing[1]):
            return False
        member = thing[1]
        if member not in self.whole or member in held or member in lacked:
            return False
        return self.lets_by(thing[2], held + (member,), lacked) and self.lets_by(thing[3], held, lacked + (member,))


def tree_of(whole, clashes, peaces):
    for part in parts_of(whole):
        if not holds_one_of(part, clashes) and not lies_in_one_of(part, peaces):
            return ("open", part)
    return ("tree", tree_from(whole, clashes, peaces))


def tree_from(unasked, clashes, peaces):
    # The clashes are those of which no member was lacked on the way here, the peaces those that lack none that was
    # held. As no part of the whole is open, one of them is reached when all members were asked about, if not ahead.
    for clash in clashes:
        if rest_of(clash, unasked) == clash:
            return ("clash", clash)
    for peace in peaces:
        if is_part(unasked, peace):
            return ("peace", peace)
    member = unasked[0]
    one = tree_from(unasked[1:], clashes, [peace for peace in peaces if member in peace])
    other = tree_from(unasked[1:], [clash for clash in clashes if member not in clash], peaces)
    return ("ask", member, one, other)
