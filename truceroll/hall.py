"""The hall: sayings come and go, are made firm and let loose again, and what is told of their truce is kept up."""

from truceroll.errors import BadLabel, BadRule, NoLabel, Taken, TooMany
from truceroll.heaps import MOST_NAMES_IN_ALL, MOST_SAYINGS, is_label
from truceroll.reasons import reasons_for, retreats_from, standing_of
from truceroll.rules import is_rule, is_wish, names_of_all
from truceroll.sets import set_of
from truceroll.truces import Truce


class Hall:
    def __init__(self):
        self.loose_sayings = {}
        self.firm_sayings = {}
        self.truce = Truce([], [])

    def say(self, label, rule):
        if not is_label(label):
            raise BadLabel("the thing is no label")
        if label in self.loose_sayings or label in self.firm_sayings:
            raise Taken(label)
        if not is_rule(rule):
            raise BadRule("the thing is no rule")
        if len(self.all_rules()) >= MOST_SAYINGS:
            raise TooMany(MOST_SAYINGS)
        self.need_few_names(rule)
        self.loose_sayings[label] = rule
        return self.settled()

    def unsay(self, label):
        self.sayings_with(label).pop(label)
        return self.settled()

    def fix(self, label):
        need_label(label, self.loose_sayings)
        self.firm_sayings[label] = self.loose_sayings.pop(label)
        return self.settled()

    def free(self, label):
        need_label(label, self.firm_sayings)
        self.loose_sayings[label] = self.firm_sayings.pop(label)
        return self.settled()

    def loose(self):
        return set_of(list(self.loose_sayings))

    def firm(self):
        return set_of(list(self.firm_sayings))

    def rule_at(self, label):
        return self.sayings_with(label)[label]

    def clashes(self):
        return self.truce.clashes()

    def peaces(self):
        return self.truce.peaces()

    def is_peaceful(self, part):
        for member in part:
            need_label(member, self.loose_sayings)
        return self.truce.is_peaceful(part)

    def clash_paper(self, part):
        return self.truce.clash_paper(part)

    def peace_paper(self, part):
        return self.truce.peace_paper(part)

    def tree(self):
        return self.truce.tree()

    def reasons_for(self, wish):
        self.need_wish(wish)
        return reasons_for(self.firm_row(), self.heap(), wish)

    def retreats_from(self, wish):
        self.need_wish(wish)
        return retreats_from(self.firm_row(), self.heap(), wish)

    def standing_of(self, wish):
        self.need_wish(wish)
        return standing_of(self.firm_row(), self.heap(), wish)

    def firm_row(self):
        return [self.firm_sayings[label] for label in self.firm()]

    def heap(self):
        return list(self.loose_sayings.items())

    def all_rules(self):
        return list(self.loose_sayings.values()) + list(self.firm_sayings.values())

    def sayings_with(self, label):
        if is_label(label) and label in self.loose_sayings:
            return self.loose_sayings
        need_label(label, self.firm_sayings)
        return self.firm_sayings

    def need_wish(self, wish):
        if not is_wish(wish):
            raise BadRule("the thing is no rule of at most five deep")
        self.need_few_names(wish)

    def need_few_names(self, rule):
        if len(names_of_all(self.all_rules() + [rule])) > MOST_NAMES_IN_ALL:
            raise TooMany(MOST_NAMES_IN_ALL)

    def settled(self):
        # The truce is made anew at each deed: so it never hangs on the row of the deeds.
        ahead = self.truce
        self.truce = Truce(self.firm_row(), self.heap())
        return changes_between(ahead, self.truce)


def need_label(label, sayings):
    # Only what is a label is looked for: True is found where 1 is kept, and some things can't be looked for at all.
    if not is_label(label) or label not in sayings:
        raise NoLabel(label)


def changes_between(ahead, behind):
    return (told_alone(ahead.clashes(), behind.clashes()), told_alone(behind.clashes(), ahead.clashes()),
            told_alone(ahead.peaces(), behind.peaces()), told_alone(behind.peaces(), ahead.peaces()))


def told_alone(family, other):
    return [part for part in family if part not in other]
