"""Readers of a truce's papers: whether one shows that a set is a least clash, or a greatest peace."""

from truceroll.facts import truth_of
from truceroll.heaps import label_of, rules_beside
from truceroll.papers import is_paper, is_paper_by
from truceroll.rules import names_of_all
from truceroll.sets import rest_of, set_of
from truceroll.shortest import shortest_of_each


def is_clash_paper(firm, heap, part, thing):
    if not has_rows(thing, len(part)) or not is_paper(rules_beside(firm, heap, part), thing[0]):
        return False
    for place, label in enumerate(part):
        if not are_facts_for(rules_beside(firm, heap, rest_of(part, (label,))), thing[1][place]):
            return False
    return True


def is_peace_paper(firm, heap, part, thing):
    whole = set_of([label_of(saying) for saying in heap])
    others = rest_of(whole, part)
    if not has_rows(thing, len(others)) or not are_facts_for(rules_beside(firm, heap, part), thing[0]):
        return False
    shortest = shortest_of_each(rules_beside(firm, heap, whole))
    for place, label in enumerate(others):
        if not is_paper_by(shortest, rules_beside(firm, heap, part + (label,)), thing[1][place]):
            return False
    return True


def has_rows(thing, many):
    return isinstance(thing, tuple) and len(thing) == 2 and isinstance(thing[1], list) and len(thing[1]) == many


def are_facts_for(rules, thing):
    if not isinstance(thing, dict):
        return False
    for name in names_of_all(rules):
        if name not in thing or not isinstance(thing[name], bool):
            return False
    return all([truth_of(rule, thing) for rule in rules])
