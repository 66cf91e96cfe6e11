"""What several tests share: rules of all kinds, and a second, plain reckoning to hold the program against."""

import itertools
import random

TWO = ("and", "or", "then", "same")

A, B, C, D, E = (("is", name) for name in "abcde")


def nested(depth, inmost=A):
    """A rule of just this depth, made of "not" around one that is one deep."""
    rule = inmost
    for _ in range(depth - 1):
        rule = ("not", rule)
    return rule


def all_of(names, word="and"):
    """A rule of these names, as shallow as may be."""
    rules = [("is", name) for name in names]
    while len(rules) > 1:
        rules = [(word, *pair) if len(pair) == 2 else pair[0]
                 for pair in (tuple(rules[k:k + 2]) for k in range(0, len(rules), 2))]
    return rules[0]


def random_rule(chance, names, depth):
    if depth == 1 or chance.random() < 0.15:
        if chance.random() < 0.08:
            return (chance.choice(("yes", "no")),)
        return ("is", chance.choice(names))
    if chance.random() < 0.25:
        return ("not", random_rule(chance, names, depth - 1))
    return (chance.choice(TWO), random_rule(chance, names, depth - 1), random_rule(chance, names, depth - 1))


def random_rules(seed, many, names, depth=6):
    """Rules of at most five of the names each, the same ones at each asking."""
    chance = random.Random(seed)
    return [random_rule(chance, chance.sample(names, min(5, len(names))), chance.randint(1, depth))
            for _ in range(many)]


def plain_names(rule):
    if rule[0] == "is":
        return {rule[1]}
    return set().union(*(plain_names(part) for part in rule[1:]))


def plain_truth(rule, facts):
    word = rule[0]
    if word in ("yes", "no"):
        return word == "yes"
    if word == "is":
        return facts[rule[1]]
    truths = tuple(plain_truth(part, facts) for part in rule[1:])
    return truths in {
        "not": [(False,)],
        "and": [(True, True)],
        "or": [(True, True), (True, False), (False, True)],
        "then": [(True, True), (False, True), (False, False)],
        "same": [(True, True), (False, False)],
    }[word]


def plain_facts(names):
    names = sorted(names)
    return [dict(zip(names, truths)) for truths in itertools.product((False, True), repeat=len(names))]


def clause_holds(clause, facts):
    return any(facts[name] == truth for name, truth in clause)


def clauses_over(names):
    """All clauses over these names, in no order that counts."""
    rows = []
    for truths in itertools.product((None, False, True), repeat=len(names)):
        rows.append(tuple((name, truth) for name, truth in zip(sorted(names), truths) if truth is not None))
    return rows


def plain_follows(rule, clause):
    names = plain_names(rule) | {name for name, truth in clause}
    return all(clause_holds(clause, facts) for facts in plain_facts(names) if plain_truth(rule, facts))


def plain_shortest(rule, names):
    """A look over all clauses over these names and all facts."""
    following = [clause for clause in clauses_over(names) if plain_follows(rule, clause)]
    least = [clause for clause in following if not any(set(part) < set(clause) for part in following)]
    return sorted(least, key=lambda clause: (len(clause), clause))


def first_facts(rules):
    """A look over all facts: the first under which all rules hold, or None."""
    names = set().union(*(plain_names(rule) for rule in rules))
    for facts in plain_facts(names):
        if all(plain_truth(rule, facts) for rule in rules):
            return facts
    return None


def all_parts(whole):
    """All parts of a set, in order."""
    return [part for many in range(len(whole) + 1) for part in itertools.combinations(sorted(whole), many)]


def plain_order(family):
    return sorted(set(family), key=lambda part: (len(part), part))


def plain_least(family):
    return [part for part in plain_order(family) if not any(set(other) < set(part) for other in family)]


def plain_greatest(family):
    return [part for part in plain_order(family) if not any(set(part) < set(other) for other in family)]


def plain_crossings(family):
    """A look over all sets of members."""
    members = sorted(set().union(*family))
    return plain_least([part for part in all_parts(members) if all(set(part) & set(other) for other in family)])


def random_set(chance, members, least=0, most=None):
    return tuple(sorted(chance.sample(members, chance.randint(least, len(members) if most is None else most))))


def asker_of(clashes, asked=None):
    """An asker to which just those sets clash that hold one of these; what it is asked about is put into the list."""
    def ask(part):
        if asked is not None:
            asked.append(part)
        return not any(set(clash) <= set(part) for clash in clashes)
    return ask


def nested_far(many=100000):
    thing = ()
    for _ in range(many):
        thing = (thing,)
    return thing


def things_of_other_kinds():
    """Things that are no text and no tuple."""
    knot = []
    knot.append(knot)
    return [0, 1, -5, 10 ** 100, True, False, None, 1.5, b"a", b"yes", [], ["yes"], ["is", "a"], [("a", True)], knot,
            {}, {"a": True}, set(), {"a"}, frozenset("a"), object(), len, str, Touchy(), range(3), iter("a")]


class Touchy:
    """A thing that can't be looked into."""

    def __eq__(self, other):
        raise RuntimeError("compared")

    def __bool__(self):
        raise RuntimeError("asked for its truth")

    def __len__(self):
        raise RuntimeError("measured")

    def __repr__(self):
        raise RuntimeError("shown")

    __hash__ = None
