"""[34] to [36], and the eighth entry of [4]: sayings that come and go, and what a hall tells of them."""

import copy
import random
import unittest

from helper import (A, B, C, all_of, all_parts, nested, nested_far, plain_greatest, plain_least, plain_order,
                    plain_truce, random_saying, strays_of, things_of_other_kinds)
from truceroll.errors import BadLabel, BadRule, NoClash, NoLabel, NoPeace, Taken, TooMany, TruceError
from truceroll.hall import Hall
from truceroll.readers import is_clash_paper, is_peace_paper
from truceroll.reasons import reasons_for, retreats_from, standing_of
from truceroll.trees import is_tree
from truceroll.truces import Truce

YES, NO = ("yes",), ("no",)
NOT_A, NOT_B, NOT_C = ("not", A), ("not", B), ("not", C)
FAR = 10 ** 18
NO_LABELS = [0, -1, FAR + 1, 10 ** 100, -FAR, True, False, None, 1.0, 2.5, "1", "", (1,), [1], {1: True}, b"1"]
NO_RULES = ["is a", ("is", "A"), ("is", ""), ("is", "abcdefghi"), ("is", 1), ["is", "a"], ("is",), (), ("yes", "yes"),
            ("not",), ("and", A), ("or", A, B, C), nested(7), all_of("abcdef"), ("maybe", A), None, 1, True]
WISHES = [A, NOT_B, ("or", A, C), YES, NO, ("is", "zz")]


def rule_of_names(names):
    return all_of(names, "or")


def asked(hall):
    """All that can be asked of a hall."""
    labels = hall.loose() + hall.firm()
    return [hall.loose(), hall.firm(), [hall.rule_at(label) for label in labels], hall.clashes(), hall.peaces(),
            [hall.clash_paper(part) for part in hall.clashes()], [hall.peace_paper(part) for part in hall.peaces()],
            hall.tree(), [hall.is_peaceful(part) for part in all_parts(hall.loose()[:6])],
            [(hall.reasons_for(wish), hall.retreats_from(wish), hall.standing_of(wish)) for wish in WISHES[:5]]]


def hall_of(loose, firm=()):
    hall = Hall()
    for label, rule in [*loose, *firm]:
        hall.say(label, rule)
    for label, _ in firm:
        hall.fix(label)
    return hall


class Refusals(unittest.TestCase):
    def refuses(self, error, deed, *things, **fields):
        with self.assertRaises(TruceError) as caught:
            deed(*things)
        self.assertIs(type(caught.exception), error)
        for field, value in fields.items():
            self.assertEqual(getattr(caught.exception, field), value)
            self.assertIs(type(getattr(caught.exception, field)), type(value))

    def test_no_label(self):
        hall = hall_of([(1, A), (2, NOT_A)], [(3, B)])
        before = asked(hall)
        for thing in [*NO_LABELS, *things_of_other_kinds()[4:], nested_far()]:
            for rule in (A, None, nested(7)):
                self.refuses(BadLabel, hall.say, thing, rule)
        self.assertEqual(asked(hall), before)

    def test_whole_numbers_of_other_kinds_are_looked_at_first(self):
        hall = hall_of([(1, A)])
        for thing in [True, 1.0]:
            self.assertEqual(thing, 1)
            self.refuses(BadLabel, hall.say, thing, B)
            for deed in (hall.unsay, hall.fix, hall.free, hall.rule_at):
                self.refuses(NoLabel, deed, thing, label=thing)
        hall.fix(1)
        for thing in [True, 1.0]:
            for deed in (hall.unsay, hall.fix, hall.free, hall.rule_at):
                self.refuses(NoLabel, deed, thing, label=thing)
        self.assertEqual((hall.loose(), hall.firm()), ((), (1,)))

    def test_labels_at_the_edges(self):
        hall = Hall()
        hall.say(1, A)
        hall.say(FAR, NOT_A)
        self.assertEqual((hall.loose(), hall.clashes()), ((1, FAR), [(1, FAR)]))
        self.refuses(BadLabel, hall.say, 0, A)
        self.refuses(BadLabel, hall.say, FAR + 1, A)

    def test_taken(self):
        hall = hall_of([(1, A)], [(2, B)])
        before = asked(hall)
        for label in (1, 2):
            for rule in [A, C, *NO_RULES]:
                self.refuses(Taken, hall.say, label, rule, label=label)
        self.assertEqual(asked(hall), before)

    def test_no_rule(self):
        hall = hall_of([(1, A)], [(2, B)])
        before = asked(hall)
        for thing in [*NO_RULES, *things_of_other_kinds(), "", (), nested_far()]:
            self.refuses(BadRule, hall.say, 3, thing)
        self.assertEqual(asked(hall), before)

    def test_ten_sayings_and_an_eleventh(self):
        for firm in (0, 3, 10):
            hall = Hall()
            for label in range(1, 11):
                hall.say(label, ("or", A, NOT_B))
            for label in range(1, firm + 1):
                hall.fix(label)
            before = asked(hall)
            for rule in (YES, A, rule_of_names("cdefg")):
                self.refuses(TooMany, hall.say, 11, rule, most=10)
            self.assertEqual(asked(hall), before)
            hall.unsay(1)
            hall.say(11, NOT_A)
            self.refuses(TooMany, hall.say, 12, YES, most=10)

    def test_twelve_names_and_a_thirteenth(self):
        hall = hall_of([(1, rule_of_names("abcde")), (2, rule_of_names("fghij"))], [(3, rule_of_names("kl"))])
        before = asked(hall)
        for rule in [("is", "m"), ("or", A, ("is", "aa")), ("and", NO, ("is", "zzzzzzzz")), ("or", YES, ("is", "m"))]:
            self.refuses(TooMany, hall.say, 4, rule, most=12)
        self.assertEqual(asked(hall), before)
        hall.say(4, rule_of_names("aekl"))
        hall.unsay(3)
        self.refuses(TooMany, hall.say, 5, ("is", "m"), most=12)
        hall.unsay(4)
        hall.say(5, rule_of_names("mn"))
        self.refuses(TooMany, hall.say, 6, ("is", "k"), most=12)

    def test_the_first_that_is_due(self):
        hall = hall_of([(label, rule_of_names("abcde")) for label in range(1, 9)],
                       [(9, rule_of_names("fghij")), (10, rule_of_names("kl"))])
        before = asked(hall)
        self.refuses(BadLabel, hall.say, 0, None)
        self.refuses(BadLabel, hall.say, True, ("is", "m"))
        self.refuses(Taken, hall.say, 1, None, label=1)
        self.refuses(Taken, hall.say, 10, ("is", "m"), label=10)
        self.refuses(BadRule, hall.say, 11, None)
        self.refuses(BadRule, hall.say, 11, nested(7, ("is", "m")))
        self.refuses(TooMany, hall.say, 11, ("is", "m"), most=10)
        self.assertEqual(asked(hall), before)
        hall.unsay(8)
        self.refuses(TooMany, hall.say, 11, ("is", "m"), most=12)

    def test_labels_that_are_not_there(self):
        hall = hall_of([(1, A), (4, C)], [(2, NOT_A), (5, B)])
        before = asked(hall)
        for thing in [3, 6, 100, FAR, *NO_LABELS]:
            for deed in (hall.unsay, hall.fix, hall.free, hall.rule_at):
                self.refuses(NoLabel, deed, thing, label=thing)
        for thing in [*(thing for thing in things_of_other_kinds() if type(thing) is not int), nested_far()]:
            for deed in (hall.unsay, hall.fix, hall.free, hall.rule_at):
                self.refuses(NoLabel, deed, thing)
        self.assertEqual(asked(hall), before)

    def test_loose_and_firm_at_the_wrong_door(self):
        hall = hall_of([(1, A)], [(2, NOT_A)])
        before = asked(hall)
        self.refuses(NoLabel, hall.free, 1, label=1)
        self.refuses(NoLabel, hall.fix, 2, label=2)
        self.assertEqual(asked(hall), before)

    def test_the_same_deed_twice(self):
        hall = hall_of([(1, A), (2, B)])
        hall.fix(1)
        self.refuses(NoLabel, hall.fix, 1, label=1)
        hall.free(1)
        self.refuses(NoLabel, hall.free, 1, label=1)
        hall.unsay(1)
        self.refuses(NoLabel, hall.unsay, 1, label=1)
        hall.fix(2)
        hall.unsay(2)
        for deed in (hall.unsay, hall.fix, hall.free, hall.rule_at):
            self.refuses(NoLabel, deed, 2, label=2)
        hall.say(2, A)
        self.refuses(Taken, hall.say, 2, A, label=2)
        self.assertEqual((hall.loose(), hall.firm()), ((2,), ()))

    def test_sets_with_members_that_are_not_loose(self):
        hall = hall_of([(2, A), (4, NOT_A), (9, B)], [(3, C)])
        for part, label in [((3,), 3), ((2, 3), 3), ((1, 2), 1), ((2, 4, 5, 6), 5), ((-5, 0, 2), -5), ((0,), 0),
                            ((2, 4, 9, FAR), FAR), ((3, 4, 5), 3), ((10 ** 100,), 10 ** 100)]:
            self.refuses(NoLabel, hall.is_peaceful, part, label=label)
        self.assertIs(hall.is_peaceful((2, 9)), True)
        self.assertIs(hall.is_peaceful((2, 4)), False)
        self.assertIs(hall.is_peaceful(()), True)

    def test_no_clash_and_no_peace(self):
        hall = hall_of([(2, A), (4, NOT_A), (9, B)], [(3, C)])
        for part in [(), (2,), (2, 4, 9), (2, 9), (4, 9), (3,), (5,), (2, 3, 4), (0,), (-1,)]:
            self.refuses(NoClash, hall.clash_paper, part, part=part)
        for part in [(), (2,), (2, 4), (2, 4, 9), (3,), (5,), (2, 3, 9), (2, 9, 10)]:
            self.refuses(NoPeace, hall.peace_paper, part, part=part)
        self.assertEqual((hall.clashes(), hall.peaces()), ([(2, 4)], [(2, 9), (4, 9)]))

    def test_wishes_that_are_none(self):
        hall = hall_of([(1, A), (2, rule_of_names("bcdef"))], [(3, rule_of_names("ghijk"))])
        before = asked(hall)
        for deed in (hall.reasons_for, hall.retreats_from, hall.standing_of):
            for thing in [*NO_RULES, *things_of_other_kinds(), "", nested_far(), nested(6), nested(6, ("is", "zz")),
                          ("and", nested(5), A)]:
                self.refuses(BadRule, deed, thing)
            deed(nested(5))
            deed(("is", "l"))
            for wish in [("or", ("is", "l"), ("is", "m")), rule_of_names("lmnop"), ("and", NO, rule_of_names("mn"))]:
                self.refuses(TooMany, deed, wish, most=12)
            self.refuses(BadRule, deed, nested(6, ("is", "m")))
        self.assertEqual(asked(hall), before)

    def test_a_thirteenth_name_in_a_wish(self):
        hall = hall_of([(1, rule_of_names("abcde")), (2, rule_of_names("fghij"))], [(3, rule_of_names("kl"))])
        for deed in (hall.reasons_for, hall.retreats_from, hall.standing_of):
            self.refuses(TooMany, deed, ("is", "m"), most=12)
            deed(rule_of_names("aekl"))
        hall.unsay(3)
        hall.reasons_for(rule_of_names("mn"))
        self.refuses(TooMany, hall.reasons_for, rule_of_names("mno"), most=12)


class Watched:
    """A hall and, beside it, what should be there; each deed is held against [34] and [35]."""

    def __init__(self, test):
        self.test, self.hall = test, Hall()
        self.loose, self.firm = {}, {}
        self.clashes, self.peaces = [], [()]

    def truce_now(self):
        firm = [rule for _, rule in sorted(self.firm.items())]
        return firm, list(self.loose.items())

    def do(self, deed, label, rule=None):
        ahead = (self.clashes, self.peaces)
        was_loose = label in self.loose
        told = self.hall.say(label, rule) if deed == "say" else getattr(self.hall, deed)(label)
        if deed == "say":
            self.loose[label] = rule
        elif deed == "fix":
            self.firm[label] = self.loose.pop(label)
        elif deed == "free":
            self.loose[label] = self.firm.pop(label)
        else:
            self.loose.pop(label, None)
            self.firm.pop(label, None)
        self.clashes, self.peaces = plain_truce(*self.truce_now())
        self.check_told(told, ahead)
        kind = deed if deed != "unsay" else "unsay loose" if was_loose else "unsay firm"
        self.check_sentence(kind, label, ahead, told)
        return told

    def check_told(self, told, ahead):
        test, hall = self.test, self.hall
        test.assertEqual((type(told), len(told)), (tuple, 4))
        test.assertTrue(all(type(family) is list for family in told))
        gone, come, lost, won = told
        test.assertEqual(told, tuple(plain_order(family) for family in told))
        for before, out, new, now in [(ahead[0], gone, come, self.clashes), (ahead[1], lost, won, self.peaces)]:
            test.assertLessEqual(set(out), set(before))
            test.assertFalse(set(new) & set(before))
            test.assertEqual(plain_order((set(before) - set(out)) | set(new)), now)
        test.assertEqual((hall.clashes(), hall.peaces()), (self.clashes, self.peaces))
        test.assertEqual((hall.loose(), hall.firm()), (tuple(sorted(self.loose)), tuple(sorted(self.firm))))

    def check_sentence(self, kind, label, ahead, told):
        test, (clashes, peaces) = self.test, ahead
        taken_out = [tuple(other for other in part if other != label) for part in peaces]
        if kind == "unsay loose":
            test.assertEqual(self.clashes, [part for part in clashes if label not in part])
            test.assertEqual(self.peaces, plain_greatest(taken_out))
        elif kind == "fix":
            test.assertEqual(self.clashes, plain_least([tuple(other for other in part if other != label)
                                                        for part in clashes]))
            test.assertEqual(self.peaces, plain_order([out for part, out in zip(peaces, taken_out) if label in part]))
        elif kind == "say":
            test.assertEqual(told[0], [])
            test.assertTrue(all(label in part for part in told[1]))
            for part in peaces:
                test.assertTrue(part in self.peaces or tuple(sorted((*part, label))) in self.peaces)
        elif kind == "unsay firm":
            test.assertTrue(all(any(set(one) <= set(part) for one in clashes) for part in self.clashes))
            test.assertTrue(all(any(set(part) <= set(one) for one in self.peaces) for part in peaces))

    def drawn_deed(self, chance, names, most=10):
        deeds = ["say"] * 4 * (len(self.loose) + len(self.firm) < most)
        deeds += ["fix", "unsay"] * bool(self.loose) + ["free", "free", "unsay"] * bool(self.firm)
        deed = chance.choice(deeds)
        if deed == "say":
            free = [label for label in [*range(1, 14), FAR - 1, FAR] if label not in self.loose | self.firm]
            return deed, chance.choice(free), random_saying(chance, names)
        there = {"fix": self.loose, "free": self.firm, "unsay": self.loose | self.firm}[deed]
        return deed, chance.choice(sorted(there)), None


class Deeds(unittest.TestCase):
    def test_a_new_hall(self):
        hall = Hall()
        self.assertEqual((hall.loose(), hall.firm(), hall.clashes(), hall.peaces()), ((), (), [], [()]))
        self.assertIs(hall.is_peaceful(()), True)
        self.assertEqual(hall.tree(), ("peace", ()))
        self.assertEqual(hall.peace_paper(()), ({}, []))
        self.assertEqual((hall.reasons_for(A), hall.retreats_from(A), hall.standing_of(A)), ([], [()], (0, 1)))

    def test_known_ones(self):
        hall = Hall()
        self.assertEqual(hall.say(1, A), ([], [], [()], [(1,)]))
        self.assertEqual(hall.say(2, NOT_A), ([], [(1, 2)], [], [(2,)]))
        self.assertEqual(hall.fix(1), ([(1, 2)], [(2,)], [(1,), (2,)], [()]))
        self.assertEqual(hall.say(3, B), ([], [], [()], [(3,)]))
        self.assertEqual(hall.unsay(1), ([(2,)], [], [(3,)], [(2, 3)]))
        self.assertEqual(hall.say(1, NO), ([], [(1,)], [], []))
        self.assertEqual(hall.fix(1), ([(1,)], [()], [(2, 3)], []))
        self.assertEqual((hall.clashes(), hall.peaces()), ([()], []))
        self.assertEqual(hall.unsay(2), ([], [], [], []))
        self.assertEqual(hall.free(1), ([()], [(1,)], [], [(3,)]))
        self.assertEqual(hall.unsay(3), ([], [], [(3,)], [()]))

    def test_drawn_deeds(self):
        chance = random.Random(35)
        for turn in range(40):
            watched = Watched(self)
            names = list("abcdef")[:chance.randint(2, 6)]
            for _ in range(25):
                watched.do(*watched.drawn_deed(chance, names, 10 if turn % 4 == 0 else 6))

    def test_twelve_names(self):
        chance = random.Random(36)
        watched = Watched(self)
        for _ in range(14):
            deed = watched.drawn_deed(chance, list("abcdefghijkl"), 7)
            watched.do(*deed)

    def test_made_firm_and_loose_again(self):
        chance = random.Random(37)
        for _ in range(25):
            watched = Watched(self)
            for _ in range(7):
                watched.do(*watched.drawn_deed(chance, list("abc"), 7))
            for label in sorted(watched.loose):
                clashes, peaces = watched.hall.clashes(), watched.hall.peaces()
                there = watched.do("fix", label)
                back = watched.do("free", label)
                self.assertEqual((watched.hall.clashes(), watched.hall.peaces()), (clashes, peaces))
                self.assertEqual((back[1], back[0], back[3], back[2]), there)

    def test_whatever_the_row_of_deeds_the_truce_made_at_once_of_what_is_left(self):
        chance = random.Random(4)
        for _ in range(25):
            watched = Watched(self)
            for _ in range(chance.randint(5, 20)):
                watched.do(*watched.drawn_deed(chance, list("abcd"), 7))
            firm, heap = watched.truce_now()
            truce, hall = Truce(firm, heap), watched.hall
            self.assertEqual((hall.clashes(), hall.peaces()), (truce.clashes(), truce.peaces()))
            fresh = Hall()
            left = [*watched.loose.items(), *watched.firm.items()]
            chance.shuffle(left)
            for label, rule in left:
                fresh.say(label, rule)
                if label in watched.firm and chance.random() < 0.5:
                    fresh.fix(label)
            for label in sorted(set(watched.firm) - set(fresh.firm()), reverse=True):
                fresh.fix(label)
            self.assertEqual(asked(fresh), asked(hall))


class Asked(unittest.TestCase):
    def check(self, watched):
        hall, (firm, heap) = watched.hall, watched.truce_now()
        labels, clashes, peaces = hall.loose(), hall.clashes(), hall.peaces()
        for label, rule in [*watched.loose.items(), *watched.firm.items()]:
            self.assertEqual(hall.rule_at(label), rule)
        for part in clashes:
            self.assertIs(is_clash_paper(firm, heap, part, hall.clash_paper(part)), True)
        for part in peaces:
            self.assertIs(is_peace_paper(firm, heap, part, hall.peace_paper(part)), True)
        self.assertIs(is_tree(labels, clashes, peaces, hall.tree()), True)
        self.assertEqual(strays_of(labels, clashes, peaces, hall.tree()), [])
        for part in all_parts(labels):
            self.assertIs(hall.is_peaceful(part), any(set(part) <= set(peace) for peace in peaces))
        for wish in WISHES:
            denied = plain_truce([*firm, ("not", wish)], heap)
            self.assertEqual(hall.reasons_for(wish), denied[0])
            retreats = [tuple(label for label in labels if label not in part) for part in denied[1]]
            self.assertEqual(hall.retreats_from(wish), plain_order(retreats))
            many = [part for part in peaces if not any(set(part) <= set(peace) for peace in denied[1])]
            self.assertEqual(hall.standing_of(wish), (len(many), len(peaces)))

    def test_behind_drawn_deeds(self):
        chance = random.Random(361)
        for turn in range(30):
            watched = Watched(self)
            for _ in range(chance.randint(0, 18)):
                watched.do(*watched.drawn_deed(chance, list("abcd"), 10 if turn % 5 == 0 else 6))
            self.check(watched)

    def test_the_firm_rules_stand_in_the_row_of_their_labels(self):
        hall = hall_of([(5, NOT_C)], [(9, A), (2, ("then", B, C)), (4, ("then", A, B))])
        firm = [("then", B, C), ("then", A, B), A]
        self.assertIs(is_clash_paper(firm, [(5, NOT_C)], (5,), hall.clash_paper((5,))), True)
        self.assertEqual(hall.clash_paper((5,)), Truce(firm, [(5, NOT_C)]).clash_paper((5,)))
        self.assertIs(is_peace_paper(firm, [(5, NOT_C)], (), hall.peace_paper(())), True)
        self.assertEqual(hall.reasons_for(C), reasons_for(firm, [(5, NOT_C)], C))
        self.assertEqual(hall.retreats_from(C), retreats_from(firm, [(5, NOT_C)], C))
        self.assertEqual(hall.standing_of(C), standing_of(firm, [(5, NOT_C)], C))

    def test_wishes_with_sayings_and_firm_ones(self):
        hall = hall_of([(1, A), (2, NOT_B), (3, C)], [(4, ("then", A, B))])
        self.assertEqual(hall.reasons_for(B), [(1,)])
        self.assertEqual(hall.retreats_from(B), [(1,)])
        self.assertEqual(hall.standing_of(B), (1, 2))
        self.assertEqual(hall.reasons_for(nested(5)), [(1,)])
        self.assertEqual(hall.reasons_for(("is", "zz")), [(1, 2)])

    def test_two_halls_by_turns(self):
        chance = random.Random(2)
        halls = [Watched(self), Watched(self)]
        for _ in range(40):
            one, other = chance.sample(halls, 2)
            before = (other.hall.loose(), other.hall.firm(), other.hall.clashes(), other.hall.peaces())
            one.do(*one.drawn_deed(chance, list("abc"), 5))
            self.assertEqual((other.hall.loose(), other.hall.firm(), other.hall.clashes(), other.hall.peaces()), before)
        for watched in halls:
            self.check(watched)

    def test_what_is_told_is_the_askers_own(self):
        hall = hall_of([(1, A), (2, NOT_A), (3, B), (6, NOT_B)], [(4, ("or", A, C))])
        told = asked(hall)
        kept = copy.deepcopy(told)
        for family in (hall.clashes(), hall.peaces(), hall.reasons_for(A), hall.retreats_from(A)):
            family.append((77,))
            family.reverse()
        for lines, rows in told[5]:
            lines.clear()
            rows[0]["a"] = None
            rows.pop()
        for facts, rows in told[6]:
            facts.clear()
            rows[0].clear()
            rows.append(None)
        self.assertEqual(asked(hall), kept)
        changes = hall.say(5, NOT_C)
        for family in changes:
            family.append((1, 2, 3))
        again = hall.fix(5)
        self.assertEqual(again, hall_of([(1, A), (2, NOT_A), (3, B), (6, NOT_B), (5, NOT_C)],
                                        [(4, ("or", A, C))]).fix(5))

    def test_asked_twice_with_no_deed_between(self):
        hall = hall_of([(1, A), (2, NOT_A), (3, B)], [(4, ("or", NOT_B, C))])
        self.assertEqual(asked(hall), asked(hall))


if __name__ == "__main__":
    unittest.main()
