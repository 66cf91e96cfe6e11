"""Rules written by words, and read again."""

from truceroll.errors import NoText
from truceroll.rules import MOST_DEEP, is_rule, rules_behind


def show_rule(rule):
    return " ".join(words_of(rule))


def words_of(rule):
    if rule[0] == "is":
        return ["is", rule[1]]
    words = [rule[0]]
    for part in rule[1:]:
        words.extend(words_of(part))
    return words


def read_rule(text):
    if not isinstance(text, str):
        raise NoText("what is no text writes no rule")
    words = text.split(" ")
    found = rule_at(words, 0, MOST_DEEP)
    if found[1] != len(words):
        raise NoText("words stand behind the rule")
    # The names are looked at here alone: only the whole tells how many unlike ones there are.
    if not is_rule(found[0]):
        raise NoText("what stands for a name is none, or there are too many names")
    return found[0]


def rule_at(words, place, deepest):
    # Tells the rule that begins at the place, and the place behind it. The bound ends the walk in texts however long.
    if deepest == 0:
        raise NoText("the rule is too deep")
    word = word_at(words, place)
    # What stands behind `is` is a name, whatever the word: names may be called like the words of rules.
    if word == "is":
        return (("is", word_at(words, place + 1)), place + 2)
    many = rules_behind(word)
    if many is None:
        raise NoText("a word begins no rule")
    parts = [word]
    behind = place + 1
    for turn in range(many):
        found = rule_at(words, behind, deepest - 1)
        parts.append(found[0])
        behind = found[1]
    return (tuple(parts), behind)


def word_at(words, place):
    if place == len(words):
        raise NoText("a word is lacking")
    return words[place]
