"""Facts: whether a rule holds under them, and all of them in order."""

from truceroll.errors import NoFact
from truceroll.rules import names_of


def holds(rule, facts):
    # All names are looked for first: a lacking one is refused even where the rule doesn't hang on it.
    for name in names_of(rule):
        if name not in facts:
            raise NoFact(name)
    return truth_of(rule, facts)


def truth_of(rule, facts):
    word = rule[0]
    if word == "yes":
        return True
    if word == "no":
        return False
    if word == "is":
        return facts[rule[1]]
    if word == "not":
        return not truth_of(rule[1], facts)
    return truth_of_two(word, truth_of(rule[1], facts), truth_of(rule[2], facts))


def truth_of_two(word, one, other):
    if word == "and":
        return one and other
    if word == "or":
        return one or other
    if word == "then":
        return not one or other
    return one == other


def all_facts(names):
    rows = [{}]
    # The first name is laid down first, so that it weighs most in the order of what comes of it.
    for name in sorted(names):
        longer = []
        for facts in rows:
            longer.append(with_fact(facts, name, False))
            longer.append(with_fact(facts, name, True))
        rows = longer
    return rows


def with_fact(facts, name, truth):
    more = dict(facts)
    more[name] = truth
    return more
