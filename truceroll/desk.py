"""The desk: rows of words are told to a hall of its own, and answered by words."""

from truceroll.asking import shrunk
from truceroll.errors import NoRow
from truceroll.hall import Hall
from truceroll.signs import read_number, read_set, show_set
from truceroll.solver import answer
from truceroll.weights import blames_of, cheapest_truce, peaceful_many
from truceroll.words import read_rule, show_rule

# What stands behind the first word of a row; a rule is all words from its place on. How many numbers stand behind
# `cheapest` hangs on the hall, so it isn't here.
KINDS_BEHIND = {
    "say": ("number", "rule"), "unsay": ("number",), "fix": ("number",), "free": ("number",),
    "loose": (), "firm": (), "clashes": (), "peaces": (), "rule": ("number",), "peaceful": ("set",),
    "reasons": ("rule",), "retreats": ("rule",), "standing": ("rule",), "many": (), "blames": (),
}


class Desk:
    def __init__(self):
        self.hall = Hall()

    def say(self, row):
        if not isinstance(row, str):
            raise NoRow("what is no text is no row")
        words = row.split(" ")
        kinds = kinds_behind(words[0], self.hall)
        if kinds is None or not is_count_for(kinds, len(words) - 1):
            raise NoRow("there is no such row")
        return answered(self.hall, words[0], things_read(kinds, words[1:]))


def kinds_behind(word, hall):
    if word == "cheapest":
        return ("number",) * len(hall.loose())
    return KINDS_BEHIND.get(word)


def is_count_for(kinds, many):
    if "rule" in kinds:
        return many >= len(kinds)
    return many == len(kinds)


def things_read(kinds, words):
    things = []
    for place, kind in enumerate(kinds):
        if kind == "rule":
            things.append(read_rule(" ".join(words[place:])))
        elif kind == "set":
            things.append(read_set(words[place]))
        else:
            things.append(read_number(words[place]))
    return things


def answered(hall, word, things):
    if word in ("say", "unsay", "fix", "free"):
        return show_changes(done(hall, word, things))
    if word in ("loose", "firm", "rule", "clashes", "peaces"):
        return kept(hall, word, things)
    if word in ("reasons", "retreats", "standing"):
        return wish_answered(hall, word, things[0])
    if word == "peaceful":
        return peaceful_answered(hall, things[0])
    if word == "cheapest":
        return cheapest_answered(hall, things)
    if word == "many":
        return str(peaceful_many(hall.loose(), hall.peaces()))
    return show_blames(blames_of(hall.clashes()))


def done(hall, word, things):
    if word == "say":
        return hall.say(things[0], things[1])
    if word == "unsay":
        return hall.unsay(things[0])
    if word == "fix":
        return hall.fix(things[0])
    return hall.free(things[0])


def kept(hall, word, things):
    if word == "loose":
        return show_set(hall.loose())
    if word == "firm":
        return show_set(hall.firm())
    if word == "rule":
        return show_rule(hall.rule_at(things[0]))
    if word == "clashes":
        return show_worded(word, hall.clashes())
    return show_worded(word, hall.peaces())


def wish_answered(hall, word, wish):
    if word == "reasons":
        return show_worded(word, hall.reasons_for(wish))
    if word == "retreats":
        return show_worded(word, hall.retreats_from(wish))
    standing = hall.standing_of(wish)
    return " of ".join([str(many) for many in standing])


def peaceful_answered(hall, part):
    if not hall.is_peaceful(part):
        return show_worded("no", [shrunk(lambda some: hall.is_peaceful(some), part)])
    facts = answer([hall.rule_at(label) for label in hall.firm() + part])[1]
    return " ".join(["yes"] + [name for name in sorted(facts) if facts[name]])


def cheapest_answered(hall, numbers):
    weights = dict(zip(hall.loose(), numbers))
    cheapest = cheapest_truce(weights, hall.clashes())
    return show_worded(str(cheapest[0]), [cheapest[1]])


def show_changes(changes):
    words = ("gone", "come", "lost", "won")
    return " ".join([show_worded(word, family) for word, family in zip(words, changes)])


def show_worded(word, family):
    # Where the list is empty nothing stands behind the word, not even a blank.
    return " ".join([word] + [show_set(part) for part in family])


def show_blames(blames):
    return " ".join(["blames"] + [show_blame(label, blames[label]) for label in blames])


def show_blame(label, blame):
    top = blame[0]
    bottom = blame[1]
    if bottom == 1:
        return f"{label}:{top}"
    return f"{label}:{top}/{bottom}"
