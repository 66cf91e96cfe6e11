"""Truces: all least clashes and greatest peaces of a heap beside firm rules, each with its paper, and their tree."""

from truceroll.columns import Columns
from truceroll.errors import NoClash, NoPeace
from truceroll.heaps import label_of, rule_of, rules_beside
from truceroll.rules import names_of_all
from truceroll.sets import lies_in_one_of, rest_of, set_of
from truceroll.shortest import shortest_of_each
from truceroll.solver import answer_by
from truceroll.sounding import sounded
from truceroll.trees import tree_from


class Truce:
    def __init__(self, firm, heap):
        self.firm_rules = list(firm)
        self.sayings = list(heap)
        self.whole = set_of([label_of(saying) for saying in heap])
        found = sounded(self.whole, asker_for(self.firm_rules, self.sayings))
        self.clash_list = found[0]
        self.peace_list = found[1]

    def labels(self):
        return self.whole

    def clashes(self):
        return list(self.clash_list)

    def peaces(self):
        return list(self.peace_list)

    def is_peaceful(self, part):
        return lies_in_one_of(part, self.peace_list)

    def clash_paper(self, part):
        if part not in self.clash_list:
            raise NoClash(part)
        shortest = shortest_of_each(self.rules_for(part))
        lines = answer_by(shortest, self.rules_for(part))[1]
        fewer = [self.rules_for(rest_of(part, (label,))) for label in part]
        return (lines, [answer_by(shortest, rules)[1] for rules in fewer])

    def peace_paper(self, part):
        if part not in self.peace_list:
            raise NoPeace(part)
        shortest = shortest_of_each(self.rules_for(self.whole))
        facts = answer_by(shortest, self.rules_for(part))[1]
        more = [self.rules_for(part + (label,)) for label in rest_of(self.whole, part)]
        return (facts, [answer_by(shortest, rules)[1] for rules in more])

    def tree(self):
        return tree_from(self.whole, self.clash_list, self.peace_list)

    def rules_for(self, part):
        return rules_beside(self.firm_rules, self.sayings, part)


def asker_for(firm, heap):
    columns = Columns(names_of_all(firm + [rule_of(saying) for saying in heap]))
    firm_bits = columns.bits_of_all(firm)
    loose_bits = {}
    for saying in heap:
        loose_bits[label_of(saying)] = columns.bits_of(rule_of(saying))

    def ask(part):
        bits = firm_bits
        for label in part:
            bits = bits & loose_bits[label]
        return bits != 0

    return ask
