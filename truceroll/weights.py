"""Blames, the number of peaceful sets, and the cheapest truce with a tree that shows that none is cheaper."""

from truceroll.crossings import crossings_of
from truceroll.errors import NoTruce
from truceroll.sets import is_set, lies_in_one_of, parts_of, rest_of, set_of
from truceroll.things import is_worded


def blames_of(clashes):
    members = []
    for clash in clashes:
        members.extend(clash)
    blames = {}
    for member in set_of(members):
        blames[member] = blame_of(member, clashes)
    return blames


def blame_of(member, clashes):
    top = 0
    bottom = 1
    for clash in clashes:
        if member in clash:
            top = top * len(clash) + bottom
            bottom = bottom * len(clash)
    common = common_of(top, bottom)
    return (top // common, bottom // common)


def common_of(one, other):
    # The greatest number by which both can be shared out.
    while other != 0:
        rest = one % other
        one = other
        other = rest
    return one


def peaceful_many(whole, peaces):
    return len([part for part in parts_of(whole) if lies_in_one_of(part, peaces)])


def cheapest_truce(weights, clashes):
    if () in clashes:
        raise NoTruce("a clash without members can't be met")
    # Of several alike the first one is told, and crossings are told in order.
    cheapest = min(crossings_of(clashes), key=lambda part: weight_of(weights, part))
    cost = weight_of(weights, cheapest)
    return (cost, cheapest, CostTrees(weights, clashes, cost).tree_behind((), ()))


def weight_of(weights, part):
    return sum([weights[member] for member in part])


def is_cost_tree(weights, clashes, cost, thing):
    return CostTrees(weights, clashes, cost).lets_by(thing, (), ())


class CostTrees:
    # Taken and shut are the members that were so on the way here; each step takes a new one, which ends the walk in
    # things that are nested however deep.

    def __init__(self, weights, clashes, cost):
        self.weights = weights
        self.clash_list = clashes
        self.cost = cost

    def is_dear(self, taken):
        return weight_of(self.weights, taken) >= self.cost

    def tree_behind(self, taken, shut):
        if self.is_dear(taken):
            return ("dear",)
        # What weighs less than the cheapest has no member in some clash.
        untaken = [clash for clash in self.clash_list if is_untaken(clash, taken)]
        clash = untaken[0]
        trees = [self.tree_behind(taken + (member,), shut_behind(clash, member, shut))
                 for member in rest_of(clash, shut)]
        return ("by", clash, trees)

    def lets_by(self, thing, taken, shut):
        if is_worded(thing, "dear", 1):
            return self.is_dear(taken)
        if not is_worded(thing, "by", 3) or not is_set(thing[1]) or not isinstance(thing[2], list):
            return False
        clash = thing[1]
        if clash not in self.clash_list or not is_untaken(clash, taken):
            return False
        members = rest_of(clash, shut)
        if len(thing[2]) != len(members):
            return False
        for place, member in enumerate(members):
            if not self.lets_by(thing[2][place], taken + (member,), shut_behind(clash, member, shut)):
                return False
        return True


def is_untaken(clash, taken):
    return rest_of(clash, taken) == clash


def shut_behind(clash, member, shut):
    return shut + tuple([lesser for lesser in clash if lesser < member])
