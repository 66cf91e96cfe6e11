"""Names and rules: what is one, and which names a rule has."""

MOST_LETTERS = 8
MOST_DEEP = 6
MOST_DEEP_WISH = 5
MOST_NAMES = 5

# How many rules stand behind a word; behind `is` stands a name, so it isn't here.
RULES_BEHIND = {"yes": 0, "no": 0, "not": 1, "and": 2, "or": 2, "then": 2, "same": 2}


def is_name(thing):
    if not isinstance(thing, str) or not 1 <= len(thing) <= MOST_LETTERS:
        return False
    return all(["a" <= sign <= "z" for sign in thing])


def is_rule(thing):
    return has_form(thing, MOST_DEEP) and len(names_of(thing)) <= MOST_NAMES


def is_wish(thing):
    # A wish is denied by one word more, and then it still has to be a rule.
    return is_rule(thing) and has_form(thing, MOST_DEEP_WISH)


def has_form(thing, deepest):
    # The bound goes first: it ends the walk in things that are nested however deep.
    if deepest == 0 or not isinstance(thing, tuple) or len(thing) == 0:
        return False
    if not isinstance(thing[0], str):
        return False
    if thing[0] == "is":
        return len(thing) == 2 and is_name(thing[1])
    if len(thing) - 1 != rules_behind(thing[0]):
        return False
    return all([has_form(part, deepest - 1) for part in thing[1:]])


def rules_behind(word):
    return RULES_BEHIND.get(word)


def names_of(rule):
    return sorted(set(names_within(rule)))


def names_of_all(rules):
    names = []
    for rule in rules:
        names.extend(names_within(rule))
    return sorted(set(names))


def names_within(rule):
    if rule[0] == "is":
        return [rule[1]]
    names = []
    for part in rule[1:]:
        names.extend(names_within(part))
    return names
