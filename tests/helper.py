"""What several tests share: rules of all kinds, and a second, plain reckoning to hold the program against."""

import functools
import itertools
import random

TWO = ("and", "or", "then", "same")

A, B, C, D, E = (("is", name) for name in "abcde")


def nested(depth, inmost=A):
    """A rule of just this depth, made of "not" around one that is one deep."""
    rule = inmost
    for _ in range(depth - 1):
        rule = ("not", rule)
    return rule


def all_of(names, word="and"):
    """A rule of these names, as shallow as may be."""
    rules = [("is", name) for name in names]
    while len(rules) > 1:
        rules = [(word, *pair) if len(pair) == 2 else pair[0]
                 for pair in (tuple(rules[k:k + 2]) for k in range(0, len(rules), 2))]
    return rules[0]


def random_rule(chance, names, depth):
    if depth == 1 or chance.random() < 0.15:
        if chance.random() < 0.08:
            return (chance.choice(("yes", "no")),)
        return ("is", chance.choice(names))
    if chance.random() < 0.25:
        return ("not", random_rule(chance, names, depth - 1))
    return (chance.choice(TWO), random_rule(chance, names, depth - 1), random_rule(chance, names, depth - 1))


def random_rules(seed, many, names, depth=6):
    """Rules of at most five of the names each, the same ones at each asking."""
    chance = random.Random(seed)
    return [random_rule(chance, chance.sample(names, min(5, len(names))), chance.randint(1, depth))
            for _ in range(many)]


def plain_names(rule):
    if rule[0] == "is":
        return {rule[1]}
    return set().union(*(plain_names(part) for part in rule[1:]))


def plain_truth(rule, facts):
    word = rule[0]
    if word in ("yes", "no"):
        return word == "yes"
    if word == "is":
        return facts[rule[1]]
    truths = tuple(plain_truth(part, facts) for part in rule[1:])
    return truths in {
        "not": [(False,)],
        "and": [(True, True)],
        "or": [(True, True), (True, False), (False, True)],
        "then": [(True, True), (False, True), (False, False)],
        "same": [(True, True), (False, False)],
    }[word]


def plain_facts(names):
    names = sorted(names)
    return [dict(zip(names, truths)) for truths in itertools.product((False, True), repeat=len(names))]


def clause_holds(clause, facts):
    return any(facts[name] == truth for name, truth in clause)


def clauses_over(names):
    """All clauses over these names, in no order that counts."""
    rows = []
    for truths in itertools.product((None, False, True), repeat=len(names)):
        rows.append(tuple((name, truth) for name, truth in zip(sorted(names), truths) if truth is not None))
    return rows


def plain_follows(rule, clause):
    names = plain_names(rule) | {name for name, truth in clause}
    return all(clause_holds(clause, facts) for facts in plain_facts(names) if plain_truth(rule, facts))


def plain_shortest(rule, names):
    """A look over all clauses over these names and all facts."""
    following = [clause for clause in clauses_over(names) if plain_follows(rule, clause)]
    least = [clause for clause in following if not any(set(part) < set(clause) for part in following)]
    return sorted(least, key=lambda clause: (len(clause), clause))


def first_facts(rules):
    """A look over all facts: the first under which all rules hold, or None."""
    names = set().union(*(plain_names(rule) for rule in rules))
    for facts in plain_facts(names):
        if all(plain_truth(rule, facts) for rule in rules):
            return facts
    return None


def all_parts(whole):
    """All parts of a set, in order."""
    return [part for many in range(len(whole) + 1) for part in itertools.combinations(sorted(whole), many)]


def plain_order(family):
    return sorted(set(family), key=lambda part: (len(part), part))


def plain_least(family):
    return [part for part in plain_order(family) if not any(set(other) < set(part) for other in family)]


def plain_greatest(family):
    return [part for part in plain_order(family) if not any(set(part) < set(other) for other in family)]


def plain_crossings(family):
    """A look over all sets of members."""
    members = sorted(set().union(*family))
    return plain_least([part for part in all_parts(members) if all(set(part) & set(other) for other in family)])


def random_set(chance, members, least=0, most=None):
    return tuple(sorted(chance.sample(members, chance.randint(least, len(members) if most is None else most))))


def asker_of(clashes, asked=None):
    """An asker to which just those sets clash that hold one of these; what it is asked about is put into the list."""
    def ask(part):
        if asked is not None:
            asked.append(part)
        return not any(set(clash) <= set(part) for clash in clashes)
    return ask


def random_saying(chance, names):
    """A rule that now and then clashes with others of its like."""
    def literal():
        rule = ("is", chance.choice(names))
        return ("not", rule) if chance.random() < 0.5 else rule
    turn = chance.random()
    if turn < 0.35:
        return literal()
    if turn < 0.75:
        return (chance.choice(TWO), literal(), literal())
    return random_rule(chance, chance.sample(names, min(5, len(names))), chance.randint(2, 6))


def random_heap(chance, many, names):
    """So many sayings in any row, labels with holes."""
    labels = chance.sample([1, 2, 3, 4, 6, 7, 9, 19, 20, 10 ** 17, 10 ** 18 - 1, 10 ** 18], many)
    return [(label, random_saying(chance, names)) for label in labels]


def random_firm(chance, many, names):
    """So many rules, most of which don't ask for much."""
    rules = []
    for _ in range(many):
        literals = [("is", name) if chance.random() < 0.5 else ("not", ("is", name))
                    for name in chance.sample(names, min(3, len(names)))]
        rules.append(literals[0])
        for other in literals[1:]:
            rules[-1] = ("or", rules[-1], other)
        if chance.random() < 0.1:
            rules[-1] = random_saying(chance, names)
    return rules


def plain_holding(firm, heap):
    """A look over all facts: of the sayings that hold under facts under which the firm rules do, the sets of labels."""
    rules = [*firm, *(rule for _, rule in heap)]
    tables = []
    for rule in rules:
        names = sorted(plain_names(rule))
        tables.append((names, {tuple(facts.values()): plain_truth(rule, facts) for facts in plain_facts(names)}))
    found = set()
    for facts in plain_facts(set().union(*(names for names, _ in tables))):
        told = [table[tuple(facts[name] for name in names)] for names, table in tables]
        if all(told[:len(firm)]):
            found.add(frozenset(label for (label, _), truth in zip(heap, told[len(firm):]) if truth))
    return found


def plain_truce(firm, heap):
    """A look over all sets of labels and all facts: the least clashes and the greatest peaces."""
    holding = plain_holding(firm, heap)
    labels = sorted(label for label, _ in heap)
    peaceful = {part: any(set(part) <= one for one in holding) for part in all_parts(labels)}
    clashes = [part for part in peaceful if not peaceful[part]
               and all(peaceful[part[:k] + part[k + 1:]] for k in range(len(part)))]
    peaces = [part for part in peaceful if peaceful[part]
              and not any(peaceful[tuple(sorted((*part, label)))] for label in labels if label not in part)]
    return clashes, peaces


def is_number(thing, bound):
    return type(thing) is int and thing in range(bound)


def is_plain_line(shortest, lines, place):
    line = lines[place]
    if type(line) is not tuple or any(type(literal) is not tuple or type(literal[1]) is not bool
                                      for literal in line[-1]):
        return False
    if line[0] == "rule":
        return len(line) == 3 and is_number(line[1], len(shortest)) and line[2] in shortest[line[1]]
    if line[0] != "join" or len(line) != 5 or not is_number(line[1], place) or not is_number(line[2], place):
        return False
    one, other, name = set(lines[line[1]][-1]), set(lines[line[2]][-1]), line[3]
    rest = (one - {(name, True)}) | (other - {(name, False)})
    once = len({literal[0] for literal in rest} | {name}) == len(rest) + 1
    return (name, True) in one and (name, False) in other and once and line[4] == tuple(sorted(rest))


@functools.lru_cache(maxsize=None)
def plain_shortest_of(rule):
    return plain_shortest(rule, plain_names(rule))


def is_plain_paper(rules, lines):
    """By the words of [14], for lists of tuples whose last parts are tuples."""
    shortest = [plain_shortest_of(rule) for rule in rules]
    return (len(lines) > 0 and all(is_plain_line(shortest, lines, place) for place in range(len(lines)))
            and lines[-1][-1] == ())


def with_line(lines, place, line):
    """The lines with one put in ahead of the place, the numbers of lines put right."""
    def moved(number):
        return number + 1 if number >= place else number
    behind = [("join", moved(row[1]), moved(row[2]), *row[3:]) if row[0] == "join" else row for row in lines[place:]]
    return lines[:place] + [line] + behind


def with_part(lines, place, number, part):
    line = lines[place]
    return lines[:place] + [line[:number] + (part,) + line[number + 1:]] + lines[place + 1:]


def is_formed(lines):
    return len(lines) > 0 and all(len(line) == {"rule": 3, "join": 5}[line[0]] for line in lines)


def lines_put_otherwise(chance, lines):
    """The lines with one thing or another changed."""
    place = chance.randrange(len(lines))
    line, other = lines[place], chance.choice(lines)
    ways = [
        lambda: with_part(lines, place, 0, "join" if line[0] == "rule" else "rule"),
        lambda: with_part(lines, place, 1, line[1] + chance.choice((-1, 1))),
        lambda: with_part(lines, place, 1, chance.randrange(len(lines))),
        lambda: with_part(lines, place, len(line) - 1, other[-1]),
        lambda: with_part(lines, place, len(line) - 1, line[-1][1:]),
        lambda: with_part(lines, place, len(line) - 1, line[-1][::-1]),
        lambda: with_part(lines, place, len(line) - 1, tuple((name, not truth) for name, truth in line[-1])),
        lambda: lines[:place] + lines[place + 1:],
        lambda: lines[:place] + [line] + lines[place:],
        lambda: with_line(lines, place, line),
        lambda: lines[:place] + lines[place:place + 2][::-1] + lines[place + 2:],
        lambda: lines[:place] + [other] + lines[place + 1:],
        lambda: lines[:place + 1]]
    if line[0] == "join":
        ways += [
            lambda: with_part(lines, place, 2, line[2] + chance.choice((-1, 1))),
            lambda: with_part(lines, place, 2, chance.randrange(len(lines))),
            lambda: with_part(lines, place, 3, chance.choice("abcdef")),
            lambda: with_part(with_part(lines, place, 1, line[2]), place, 2, line[1])]
    return chance.choice(ways)()


def walked(tree, part):
    """The leaf at which a set ends that walks down the tree."""
    while tree[0] == "ask":
        tree = tree[2] if tree[1] in part else tree[3]
    return tree


def strays_of(whole, clashes, peaces, tree):
    """Those sets that walk down the tree to no clash that they hold and no peace in which they lie."""
    strays = []
    for part in all_parts(whole):
        word, end = walked(tree, part)
        held = word == "clash" and end in clashes and set(end) <= set(part)
        if not held and not (word == "peace" and end in peaces and set(part) <= set(end)):
            strays.append(part)
    return strays


def nested_far(many=100000):
    thing = ()
    for _ in range(many):
        thing = (thing,)
    return thing


def things_of_other_kinds():
    """Things that are no text and no tuple."""
    knot = []
    knot.append(knot)
    return [0, 1, -5, 10 ** 100, True, False, None, 1.5, b"a", b"yes", [], ["yes"], ["is", "a"], [("a", True)], knot,
            {}, {"a": True}, set(), {"a"}, frozenset("a"), object(), len, str, Touchy(), range(3), iter("a")]


class Touchy:
    """A thing that can't be looked into."""

    def __eq__(self, other):
        raise RuntimeError("compared")

    def __bool__(self):
        raise RuntimeError("asked for its truth")

    def __len__(self):
        raise RuntimeError("measured")

    def __repr__(self):
        raise RuntimeError("shown")

    __hash__ = None
