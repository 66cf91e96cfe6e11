"""[38]: rows of words told to a desk, and what it answers."""

import fractions
import random
import unittest

from helper import (all_parts, asker_of, first_facts, nested_far, plain_crossings, plain_truce, random_saying,
                    things_of_other_kinds)
from truceroll.desk import Desk
from truceroll.errors import (BadLabel, BadRule, NoLabel, NoRow, NoText, NoTruce, Taken, TooMany, TruceError)
from truceroll.words import read_rule, show_rule

FAR = str(10 ** 18)
ASKINGS = ["loose", "firm", "clashes", "peaces", "many", "blames", "reasons is a", "retreats is a", "standing is a"]


def text_of(part):
    return "+".join(map(str, part)) or "-"


def worded(word, family):
    return " ".join([word, *map(text_of, family)])


def desk_of(*rows):
    desk = Desk()
    for row in rows:
        desk.say(row)
    return desk


def asked(desk):
    """All that can be asked of a desk without knowing what is there."""
    answers = [desk.say(row) for row in ASKINGS]
    loose = [] if answers[0] == "-" else answers[0].split("+")
    firm = [] if answers[1] == "-" else answers[1].split("+")
    answers += [desk.say("rule " + label) for label in loose + firm]
    answers += [desk.say("peaceful " + text_of(part)) for part in all_parts(sorted(map(int, loose))[:5])]
    return answers


class Rows(unittest.TestCase):
    def check(self, desk, *rows):
        for row, right in rows:
            told = desk.say(row)
            self.assertEqual((told, type(told)), (right, str), row)

    def test_a_new_desk(self):
        self.check(Desk(), ("loose", "-"), ("firm", "-"), ("clashes", "clashes"), ("peaces", "peaces -"),
                   ("peaceful -", "yes"), ("cheapest", "0 -"), ("many", "1"), ("blames", "blames"),
                   ("reasons is a", "reasons"), ("retreats is a", "retreats -"), ("standing is a", "0 of 1"),
                   ("reasons yes", "reasons -"), ("retreats yes", "retreats"), ("standing yes", "1 of 1"))

    def test_deeds(self):
        self.check(Desk(), ("say 1 is a", "gone come lost - won 1"), ("say 2 not is a", "gone come 1+2 lost won 2"),
                   ("fix 1", "gone 1+2 come 2 lost 1 2 won -"), ("say 3 is b", "gone come lost - won 3"),
                   ("free 1", "gone 2 come 1+2 lost 3 won 1+3 2+3"), ("unsay 2", "gone 1+2 come lost 2+3 won"),
                   ("unsay 1", "gone come lost 1+3 won 3"), ("say 1 no", "gone come 1 lost won"),
                   ("fix 1", "gone 1 come - lost 3 won"), ("say 4 is c", "gone come lost won"),
                   ("unsay 1", "gone - come lost won 3+4"))

    def test_every_kind_of_rule(self):
        desk = Desk()
        for number, rule in enumerate(["yes", "no", "is a", "not is a", "and is a is b", "or is a is b",
                                       "then is a is b", "same is a is b", "not not not not not is a",
                                       "is same"], start=1):
            desk.say(f"say {number} {rule}")
            self.check(desk, (f"rule {number}", rule))

    def test_loose_and_firm(self):
        desk = desk_of("say 9 is a", "say 10 is b", "say " + FAR + " is c", "say 1 is d")
        self.check(desk, ("loose", "1+9+10+" + FAR), ("firm", "-"))
        desk.say("fix 10")
        desk.say("fix 9")
        self.check(desk, ("loose", "1+" + FAR), ("firm", "9+10"), ("rule 10", "is b"), ("rule " + FAR, "is c"))

    def test_clashes_and_peaces(self):
        desk = desk_of("say 1 is a", "say 2 not is a", "say 3 not is a")
        self.check(desk, ("clashes", "clashes 1+2 1+3"), ("peaces", "peaces 1 2+3"))
        desk.say("fix 1")
        self.check(desk, ("clashes", "clashes 2 3"), ("peaces", "peaces -"))
        desk.say("fix 2")
        self.check(desk, ("clashes", "clashes -"), ("peaces", "peaces"))

    def test_peaceful(self):
        desk = desk_of("say 1 is b", "say 2 not is b", "say 3 or is a is c", "say 4 then is b is aa", "say 5 not is aa")
        self.check(desk, ("peaceful -", "yes"), ("peaceful 1", "yes b"), ("peaceful 2", "yes"), ("peaceful 3", "yes c"),
                   ("peaceful 1+4", "yes aa b"), ("peaceful 1+3+4", "yes aa b c"), ("peaceful 1+2", "no 1+2"),
                   ("peaceful 1+2+4+5", "no 1+4+5"), ("peaceful 1+2+3+4", "no 1+2"))
        desk.say("fix 3")
        self.check(desk, ("peaceful -", "yes c"), ("peaceful 1+4", "yes aa b c"))
        desk.say("fix 1")
        desk.say("fix 2")
        self.check(desk, ("peaceful -", "no -"), ("peaceful 4", "no -"))

    def test_cheapest(self):
        desk = desk_of("say 1 is a", "say 4 is b", "say 6 not is a", "say 7 and not is a not is b")
        self.check(desk, ("clashes", "clashes 1+6 1+7 4+7"), ("cheapest 1 2 5 5", "3 1+4"),
                   ("cheapest 1 1 1 1", "2 1+4"), ("cheapest 9 1 1 1", "2 6+7"),
                   ("cheapest 0 0 0 0", "0 1+4"), ("cheapest 1 9 9 0", "1 1+7"),
                   ("cheapest " + " ".join(["9" * 60] * 4), str(2 * (10 ** 60 - 1)) + " 1+4"))
        self.check(desk_of("say 3 is a"), ("cheapest 7", "0 -"))

    def test_reasons_retreats_and_standing(self):
        desk = desk_of("say 1 is a", "say 2 then is a is b", "say 3 is b", "say 4 not is b")
        self.check(desk, ("reasons is b", "reasons 3 1+2"), ("retreats is b", "retreats 1+3 2+3"),
                   ("standing is b", "1 of 3"), ("reasons not not not is b", "reasons 4"),
                   ("retreats is zz", "retreats 4 1+3 2+3"), ("standing or is a not is a", "3 of 3"))
        desk.say("fix 3")
        self.check(desk, ("reasons is b", "reasons -"), ("retreats is b", "retreats"), ("standing is b", "1 of 1"))

    def test_many_and_blames(self):
        desk = desk_of("say 1 is a", "say 2 not is a", "say 3 not is a")
        self.check(desk, ("blames", "blames 1:1 2:1/2 3:1/2"), ("many", "5"))
        desk.say("say 10 no")
        desk.say("say 9 and is a is b")
        self.check(desk, ("blames", "blames 1:1 2:1 3:1 9:1 10:1"), ("many", "7"))
        self.check(desk_of("say 1 is a", "say 2 then is a is b", "say 3 not is b", "say 4 not is a"),
                   ("blames", "blames 1:5/6 2:1/3 3:1/3 4:1/2"))
        desk.say("fix 10")
        self.check(desk, ("blames", "blames"), ("many", "0"))

    def test_drawn_rows_held_against_a_plain_reckoning(self):
        chance = random.Random(38)
        for _ in range(25):
            desk, loose, firm = Desk(), {}, {}
            for _ in range(14):
                ahead = plain_truce(list(firm.values()), list(loose.items()))
                row = self.drawn_deed(chance, loose, firm)
                behind = plain_truce(list(firm.values()), list(loose.items()))
                families = []
                for before, after in zip(ahead, behind):
                    families.append([part for part in before if part not in after])
                    families.append([part for part in after if part not in before])
                self.check(desk, (row, " ".join(map(worded, ("gone", "come", "lost", "won"), families))))
            self.check_askings(chance, desk, loose, firm)

    def drawn_deed(self, chance, loose, firm):
        deeds = ["say"] * 4 * (len(loose) + len(firm) < 8) + ["fix", "unsay"] * bool(loose) + ["free"] * bool(firm) * 2
        deed = chance.choice(deeds)
        if deed == "say":
            label = chance.choice([label for label in range(1, 15) if label not in loose | firm])
            loose[label] = random_saying(chance, list("abcd"))
            return f"say {label} {show_rule(loose[label])}"
        label = chance.choice(sorted(firm if deed == "free" else loose))
        if deed == "fix":
            firm[label] = loose.pop(label)
        elif deed == "free":
            loose[label] = firm.pop(label)
        else:
            loose.pop(label)
        return f"{deed} {label}"

    def check_askings(self, chance, desk, loose, firm):
        labels, rules = sorted(loose), [rule for _, rule in sorted(firm.items())]
        clashes, peaces = plain_truce(rules, list(loose.items()))
        self.check(desk, ("loose", text_of(labels)), ("firm", text_of(sorted(firm))),
                   ("clashes", worded("clashes", clashes)), ("peaces", worded("peaces", peaces)))
        ask = asker_of(clashes)
        self.check(desk, ("many", str(sum(ask(part) for part in all_parts(labels)))))
        for part in all_parts(labels)[::3]:
            facts = first_facts(rules + [loose[label] for label in part])
            right = "no" if facts is None else " ".join(["yes", *(name for name in sorted(facts) if facts[name])])
            if facts is None:
                left = part
                for member in part:
                    fewer = tuple(other for other in left if other != member)
                    left = left if ask(fewer) else fewer
                right = "no " + text_of(left)
            self.check(desk, ("peaceful " + text_of(part), right))
        shares = {label: sum(fractions.Fraction(1, len(part)) for part in clashes if label in part)
                  for label in labels if any(label in part for part in clashes)}
        self.check(desk, ("blames", " ".join(["blames", *(f"{label}:{share}" for label, share in shares.items())])))
        weights = {label: chance.randint(0, 4) for label in labels}
        row = " ".join(["cheapest", *(str(weights[label]) for label in labels)])
        if () in clashes:
            self.assertRaises(NoTruce, desk.say, row)
        else:
            costs = [(sum(weights[label] for label in part), part) for part in plain_crossings(clashes)]
            cost, part = min(costs, key=lambda pair: pair[0])
            self.check(desk, (row, f"{cost} {text_of(part)}"))
        for wish in ["is a", "or not is b is zz", "no"]:
            denied = plain_truce([*rules, ("not", read_rule(wish))], list(loose.items()))
            self.check(desk, ("reasons " + wish, worded("reasons", denied[0])),
                       ("retreats " + wish, worded("retreats", plain_crossings(denied[0]))),
                       ("standing " + wish,
                        f"{sum(not asker_of(denied[0])(part) for part in peaces)} of {len(peaces)}"))


class Refusals(unittest.TestCase):
    ROWS = ("say 1 is a", "say 2 not is a", "say 3 or is b is c", "say 5 not is c", "fix 3")

    def setUp(self):
        self.desk = desk_of(*self.ROWS)
        self.before = asked(self.desk)

    def tearDown(self):
        self.assertEqual(asked(self.desk), self.before)

    def refuses(self, error, row, **fields):
        with self.assertRaises(TruceError) as caught:
            self.desk.say(row)
        self.assertIs(type(caught.exception), error, row)
        for field, value in fields.items():
            self.assertEqual(getattr(caught.exception, field), value)

    def test_what_is_no_text(self):
        for thing in [*things_of_other_kinds(), (), ("loose",), ["loose"], nested_far()]:
            self.refuses(NoRow, thing)

    def test_words_that_are_not_known(self):
        for row in ["", " ", "  ", "Loose", "LOOSE", "loos", "looses", "tree", "paper 1", "clash", "peace", "yes",
                    "is a", "1", "-", "loose\n", "\nloose", "loose\t", "number", "label 1", "set -", "cheapest\n",
                    "gone", "say\t1 yes", "\u00e4", "\x00", "None", "help"]:
            self.refuses(NoRow, row)

    def test_blanks_at_either_end_and_two_running(self):
        for row in [" loose", "loose ", " say 9 yes", "clashes ", " ", "firm  ", "many ", "blames ", " unsay 1",
                    "unsay 1 ", "unsay  1", "fix  1", "peaceful 1 ", "peaceful  1", "rule 1 ", "rule  1",
                    "cheapest 1 2 3 ", "cheapest  1 2 3"]:
            self.refuses(NoRow, row)
        for row in ["say  9 yes", "say 9  yes", "say 9 yes ", "say 9 not  is a", "say 9 is  a", "reasons  is a",
                    "reasons is a ", "retreats not  is a", "standing  yes", "unsay ", "fix ", "free ", "rule ",
                    "peaceful ", "reasons ", "say 9 ", "say  ", "cheapest 1  3", "cheapest  1 2", "cheapest 1 2 "]:
            self.refuses(NoText, row)

    def test_too_few_and_too_many_words(self):
        for row in ["say", "say 9", "unsay", "fix", "free", "rule", "peaceful", "reasons", "retreats", "standing",
                    "unsay 1 2", "fix 1 2", "free 3 3", "rule 1 1", "peaceful 1 2", "loose 1", "firm -",
                    "clashes 1+2", "peaces 1", "many 1", "blames 1", "say yes"]:
            self.refuses(NoRow, row)

    def test_no_row_goes_ahead_of_all_reading(self):
        for row in ["unsay x y", "fix a b c", "peaceful ? ?", "rule x y", "loose ?", "cheapest x", "cheapest x y",
                    "cheapest x y z w", "cheapest", "cheapest 1 2 3 4", "cheapest 1 2", "say x", "many x",
                    "hello world"]:
            self.refuses(NoRow, row)

    def test_words_that_cannot_be_read(self):
        for label in ["x", "01", "-1", "+1", "1+2", "-", "", "1.0", "9" * 61, "1_0", "0x1", "\u0661", "\u00b2"]:
            for row in [f"say {label} yes", f"say {label} nothing", f"unsay {label}", f"fix {label}", f"free {label}",
                        f"rule {label}", f"cheapest {label} 1 1", f"cheapest 1 {label} 1", f"cheapest 1 1 {label}"]:
                self.refuses(NoText, row)
        for part in ["x", "", "2+1", "1+1", "+1", "1+", "1++2", "01", "1+02", "--", "-1", "1,2", "9" * 61]:
            self.refuses(NoText, f"peaceful {part}")
        for rule in ["a", "is", "is A", "is a b", "not", "and is a", "or is a is b is c", "nothing", "is abcdefghi",
                     "yes yes", "not not not not not not is a", "is\ta", "is 1", "is a\n",
                     "and is a and is b and is c and is d and is e is f"]:
            for row in [f"say 9 {rule}", f"reasons {rule}", f"retreats {rule}", f"standing {rule}"]:
                self.refuses(NoText, row)

    def test_reading_goes_ahead_of_what_the_hall_refuses(self):
        for row in ["say 0 nothing", "say 1 nothing", "say 9999999999999999999 is", "say 1 is A", "peaceful 2+1",
                    "peaceful 99+98"]:
            self.refuses(NoText, row)

    def test_what_the_hall_refuses(self):
        for label in ["0", "1000000000000000001", "9" * 60]:
            self.refuses(BadLabel, f"say {label} is a")
            for word in ("unsay", "fix", "free", "rule"):
                self.refuses(NoLabel, f"{word} {label}", label=int(label))
        self.refuses(Taken, "say 1 is a", label=1)
        self.refuses(Taken, "say 3 is z", label=3)
        for word in ("unsay", "fix", "free", "rule"):
            self.refuses(NoLabel, f"{word} 4", label=4)
        self.refuses(NoLabel, "free 1", label=1)
        self.refuses(NoLabel, "fix 3", label=3)
        for part, label in [("3", 3), ("1+3", 3), ("0", 0), ("1+2+4+6", 4), ("0+1", 0), ("9" * 60, 10 ** 60 - 1)]:
            self.refuses(NoLabel, f"peaceful {part}", label=label)
        for word in ("reasons", "retreats", "standing"):
            self.refuses(BadRule, f"{word} not not not not not is a")

    def test_no_truce(self):
        desk = desk_of("say 1 is a", "say 2 not is a", "say 3 is b", "fix 1", "fix 2")
        before = asked(desk)
        self.assertRaises(NoTruce, desk.say, "cheapest 1")
        self.assertRaises(NoText, desk.say, "cheapest x")
        self.assertRaises(NoRow, desk.say, "cheapest")
        self.assertRaises(NoRow, desk.say, "cheapest 1 1")
        self.assertEqual(asked(desk), before)
        desk.say("unsay 3")
        self.assertRaises(NoTruce, desk.say, "cheapest")

    def test_too_many(self):
        desk = desk_of("say 1 or or is a is b or is c is d", "say 2 or or is e is f or is g is h",
                       "say 3 or or is i is j or is k is l")
        before = asked(desk)
        for row in ["say 4 is m", "reasons is m", "retreats not is m", "standing or is a is m"]:
            with self.assertRaises(TooMany) as caught:
                desk.say(row)
            self.assertEqual(caught.exception.most, 12)
        self.assertEqual(asked(desk), before)
        for label in range(4, 11):
            desk.say(f"say {label} yes")
        with self.assertRaises(TooMany) as caught:
            desk.say("say 11 is m")
        self.assertEqual(caught.exception.most, 10)

    def test_a_very_long_row(self):
        self.refuses(NoRow, "loose " * 100000)
        self.refuses(NoText, "say 9 " + "not " * 100000 + "is a")
        self.refuses(NoText, "peaceful " + "1+" * 100000)

    def test_many_refused_rows_running(self):
        for row in ["say 1 is a", "loose ", "unsay 3 ", "fix 9", "say 9 is A", "free 1"] * 3:
            self.assertRaises(TruceError, self.desk.say, row)


class TwoDesks(unittest.TestCase):
    def test_by_turns(self):
        one, other = Desk(), Desk()
        self.assertEqual(one.say("say 1 is a"), "gone come lost - won 1")
        self.assertEqual(other.say("say 1 not is b"), "gone come lost - won 1")
        self.assertEqual(one.say("say 2 is b"), "gone come lost 1 won 1+2")
        self.assertEqual(other.say("loose"), "1")
        self.assertEqual(other.say("fix 1"), "gone come lost 1 won -")
        self.assertEqual(one.say("firm"), "-")
        self.assertEqual(one.say("rule 1"), "is a")
        self.assertEqual(other.say("rule 1"), "not is b")
        self.assertEqual(other.say("say 2 is b"), "gone come 2 lost won")
        self.assertEqual(one.say("clashes"), "clashes")

    def test_asked_twice_with_no_deed_between(self):
        desk = desk_of(*Refusals.ROWS)
        self.assertEqual(asked(desk), asked(desk))


if __name__ == "__main__":
    unittest.main()
