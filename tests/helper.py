"""What several tests share: rules of all kinds, and a second, plain reckoning to hold the program against."""

import itertools
import random

TWO = ("and", "or", "then", "same")

A, B, C, D, E = (("is", name) for name in "abcde")


def nested(depth, inmost=A):
    """A rule of just this depth, made of "not" around one that is one deep."""
    rule = inmost
    for _ in range(depth - 1):
        rule = ("not", rule)
    return rule


def all_of(names, word="and"):
    """A rule of these names, as shallow as may be."""
    rules = [("is", name) for name in names]
    while len(rules) > 1:
        rules = [(word, *pair) if len(pair) == 2 else pair[0]
                 for pair in (tuple(rules[k:k + 2]) for k in range(0, len(rules), 2))]
    return rules[0]


def random_rule(chance, names, depth):
    if depth == 1 or chance.random() < 0.15:
        if chance.random() < 0.08:
            return (chance.choice(("yes", "no")),)
        return ("is", chance.choice(names))
    if chance.random() < 0.25:
        return ("not", random_rule(chance, names, depth - 1))
    return (chance.choice(TWO), random_rule(chance, names, depth - 1), random_rule(chance, names, depth - 1))


def random_rules(seed, many, names, depth=6):
    """Rules of at most five of the names each, the same ones at each asking."""
    chance = random.Random(seed)
    return [random_rule(chance, chance.sample(names, min(5, len(names))), chance.randint(1, depth))
            for _ in range(many)]


def plain_names(rule):
    if rule[0] == "is":
        return {rule[1]}
    return set().union(*(plain_names(part) for part in rule[1:]))


def plain_truth(rule, facts):
    word = rule[0]
    if word in ("yes", "no"):
        return word == "yes"
    if word == "is":
        return facts[rule[1]]
    truths = tuple(plain_truth(part, facts) for part in rule[1:])
    return truths in {
        "not": [(False,)],
        "and": [(True, True)],
        "or": [(True, True), (True, False), (False, True)],
        "then": [(True, True), (False, True), (False, False)],
        "same": [(True, True), (False, False)],
    }[word]


def plain_facts(names):
    names = sorted(names)
    return [dict(zip(names, truths)) for truths in itertools.product((False, True), repeat=len(names))]


def clause_holds(clause, facts):
    return any(facts[name] == truth for name, truth in clause)


def clauses_over(names):
    """All clauses over these names, in no order that counts."""
    rows = []
    for truths in itertools.product((None, False, True), repeat=len(names)):
        rows.append(tuple((name, truth) for name, truth in zip(sorted(names), truths) if truth is not None))
    return rows


def things_of_other_kinds():
    """Things that are no text and no tuple."""
    knot = []
    knot.append(knot)
    return [0, 1, -5, 10 ** 100, True, False, None, 1.5, b"a", b"yes", [], ["yes"], ["is", "a"], [("a", True)], knot,
            {}, {"a": True}, set(), {"a"}, frozenset("a"), object(), len, str, Touchy(), range(3), iter("a")]


class Touchy:
    """A thing that can't be looked into."""

    def __eq__(self, other):
        raise RuntimeError("compared")

    def __bool__(self):
        raise RuntimeError("asked for its truth")

    def __len__(self):
        raise RuntimeError("measured")

    def __repr__(self):
        raise RuntimeError("shown")

    __hash__ = None
