"""Which clauses follow from a rule, and the shortest of them."""

from truceroll.clauses import clauses_in_order, left_of
from truceroll.facts import all_facts, truth_of
from truceroll.rules import names_of


def follows(rule, clause):
    # Names that the rule hasn't are free: where they alone are left of the clause, it fails under some facts.
    return all([left_of(clause, facts) is None for facts in facts_for(rule)])


def facts_for(rule):
    return [facts for facts in all_facts(names_of(rule)) if truth_of(rule, facts)]


def shortest_of(rule):
    # A literal whose name the rule hasn't could be left out, so clauses over its own names are enough.
    following = following_over(names_of(rule), facts_for(rule))
    return clauses_in_order([clause for clause in following if not has_shorter(clause, following)])


def shortest_of_each(rules):
    each = {}
    for rule in rules:
        each[rule] = shortest_of(rule)
    return each


def following_over(names, rows):
    # Each clause is made longer name by name, together with the rows under which it doesn't hold yet.
    pairs = [((), rows)]
    for name in names:
        longer = []
        for clause, unmet in pairs:
            longer.append((clause, unmet))
            longer.append((clause + ((name, False),), [facts for facts in unmet if facts[name]]))
            longer.append((clause + ((name, True),), [facts for facts in unmet if not facts[name]]))
        pairs = longer
    following = {}
    for clause, unmet in pairs:
        if unmet == []:
            following[clause] = True
    return following


def has_shorter(clause, following):
    # What a clause is a part of follows with it, so it is enough to leave out one literal at a time.
    for place in range(len(clause)):
        if clause[:place] + clause[place + 1:] in following:
            return True
    return False
