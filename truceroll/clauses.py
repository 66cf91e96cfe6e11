"""Clauses: what is one, their order, their parts, and what comes of them."""

from truceroll.errors import NoJoin
from truceroll.rules import is_name
from truceroll.things import each_once_in_order


def is_clause(thing):
    if not isinstance(thing, tuple) or not all([is_literal(part) for part in thing]):
        return False
    return all([thing[place - 1][0] < thing[place][0] for place in range(1, len(thing))])


def is_literal(thing):
    return isinstance(thing, tuple) and len(thing) == 2 and is_name(thing[0]) and isinstance(thing[1], bool)


def clauses_in_order(clauses):
    return each_once_in_order(clauses)


def is_clause_part(one, other):
    return all([literal in other for literal in one])


def clause_of(literals):
    truths = {}
    for name, truth in literals:
        if truths.get(name, truth) != truth:
            return None
        truths[name] = truth
    return tuple([(name, truths[name]) for name in sorted(truths)])


def left_of(clause, facts):
    left = []
    for name, truth in clause:
        if name not in facts:
            left.append((name, truth))
        elif facts[name] == truth:
            return None
    return tuple(left)


def joined(one, other, name):
    if (name, True) not in one or (name, False) not in other:
        raise NoJoin(name)
    return clause_of([literal for literal in one + other if literal[0] != name])
