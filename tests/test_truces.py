"""[26] to [29], and [2] and [4] as far as truces go: clashes, peaces, their papers and the tree."""

import copy
import itertools
import random
import unittest

from helper import (A, B, C, all_of, all_parts, is_plain_paper, nested, plain_crossings, plain_facts, plain_names,
                    plain_truce, plain_truth, random_firm, random_heap, strays_of)
from truceroll.crossings import crossings_of
from truceroll.errors import NoClash, NoPeace, TruceError
from truceroll.papers import leaned_on
from truceroll.sets import is_set, others_of
from truceroll.trees import is_tree
from truceroll.truces import Truce

YES, NO = ("yes",), ("no",)
NOT_A, NOT_B, NOT_C = ("not", A), ("not", B), ("not", C)
TWELVE = list("abcdefghijkl")
FAR = 10 ** 18

# The first two clash, and so do the last three with one another.
FIRM = [("then", A, B)]
HEAP = [(7, NOT_B), (2, A), (FAR, ("then", B, C)), (9, NOT_C)]
CLASHES = [(2, 7), (2, 9, FAR)]
PEACES = [(2, 9), (2, FAR), (7, 9, FAR)]


def drawn(seed, many, most_firm=12, most_sayings=10, names=6):
    """Firm rules and heaps, the same ones at each asking."""
    chance = random.Random(seed)
    for _ in range(many):
        few = TWELVE[:chance.randint(2, names)]
        # Few firm rules more often than many: with many there is little left to clash.
        yield (random_firm(chance, min(chance.randint(0, most_firm) for _ in range(3)), few),
               random_heap(chance, chance.randint(0, most_sayings), few))


def sayings_of(heap, part):
    return [rule for label, rule in sorted(heap) if label in part]


class Lists(unittest.TestCase):
    def check(self, firm, heap):
        truce = Truce(firm, heap)
        told = (truce.labels(), truce.clashes(), truce.peaces())
        labels = tuple(sorted(label for label, _ in heap))
        self.assertEqual(told, (labels, *plain_truce(firm, heap)))
        self.assertEqual([type(part) for part in told], [tuple, list, list])
        self.assertTrue(all(is_set(part) for part in told[1] + told[2]))
        return truce

    def test_known_ones(self):
        truce = self.check(FIRM, HEAP)
        self.assertEqual((truce.labels(), truce.clashes(), truce.peaces()), ((2, 7, 9, FAR), CLASHES, PEACES))

    def test_any_row_of_the_heap_and_of_the_firm_rules(self):
        for heap in itertools.permutations(HEAP):
            truce = Truce(FIRM, list(heap))
            self.assertEqual((truce.labels(), truce.clashes(), truce.peaces()), ((2, 7, 9, FAR), CLASHES, PEACES))
        firm = [("or", A, B), NOT_A, ("then", B, C)]
        for row in itertools.permutations(firm):
            truce = Truce(list(row), [(1, NOT_C), (2, A), (3, B)])
            self.assertEqual((truce.clashes(), truce.peaces()), ([(1,), (2,)], [(3,)]))

    def test_held_against_a_look_over_all_sets_and_all_facts(self):
        many = []
        for firm, heap in drawn(26, 150):
            truce = self.check(firm, heap)
            many.append((len(truce.clashes()), len(truce.peaces())))
        self.assertGreater(len([pair for pair in many if min(pair) > 2]), 20)

    def test_twelve_names_ten_sayings_twelve_firm_rules(self):
        chance = random.Random(12)
        for turn in range(14):
            firm = random_firm(chance, turn, TWELVE) + [("or", all_of("abcde", "or"), YES)]
            heap = random_heap(chance, 10, TWELVE)
            self.check(firm[:12], heap)

    def test_many_clashes_and_peaces(self):
        for names in (TWELVE[:5], TWELVE[:10]):
            chances = [("same", ("is", one), ("is", other)) for one, other in itertools.combinations(names, 2)][:10]
            heap = [(label, ("not", rule)) for label, rule in enumerate(chances, start=1)]
            truce = self.check([], heap)
            self.assertGreater(len(truce.peaces()), 1)
        one_of = [("is", name) for name in TWELVE[:10]]
        at_most_one = [("not", ("and", one, other)) for one, other in itertools.combinations(one_of, 2)]
        truce = Truce(at_most_one, list(enumerate(one_of, start=1)))
        self.assertEqual(truce.clashes(), list(itertools.combinations(range(1, 11), 2)))
        self.assertEqual(truce.peaces(), [(label,) for label in range(1, 11)])

    def test_firm_rules_that_cannot_hold_together(self):
        for firm in [[NO], [A, NOT_A], [YES, ("and", A, NOT_A)], [A, ("then", A, B), ("then", B, NOT_A)]]:
            for heap in [[], [(5, YES)], HEAP, [(1, NO)]]:
                truce = self.check(firm, heap)
                self.assertEqual((truce.clashes(), truce.peaces()), ([()], []))
                self.assertIs(truce.is_peaceful(()), False)
                self.assertIs(truce.is_peaceful(truce.labels()), False)

    def test_all_that_can_hold(self):
        for firm, heap in [([], [(1, A), (2, B), (FAR, C)]), ([A], [(4, ("or", A, B)), (3, YES)]),
                           ([YES], [(9, NOT_A)]), ([], [(1, A), (2, A), (3, A)])]:
            truce = self.check(firm, heap)
            self.assertEqual((truce.clashes(), truce.peaces()), ([], [truce.labels()]))
            self.assertIs(truce.is_peaceful(truce.labels()), True)

    def test_no_sayings(self):
        for firm in [[], [A], [A, B, ("then", A, B)]]:
            truce = self.check(firm, [])
            self.assertEqual((truce.labels(), truce.clashes(), truce.peaces()), ((), [], [()]))
            self.assertIs(truce.is_peaceful(()), True)
            self.assertEqual(truce.tree(), ("peace", ()))
        self.assertEqual(Truce([NO], []).tree(), ("clash", ()))

    def test_sayings_that_never_and_always_hold(self):
        truce = self.check([], [(1, NO), (2, YES), (3, ("and", A, NOT_A)), (FAR, A)])
        self.assertEqual((truce.clashes(), truce.peaces()), ([(1,), (3,)], [(2, FAR)]))

    def test_rules_six_deep_with_five_names(self):
        deep = [nested(6), nested(5), nested(6, B)]
        truce = self.check([all_of("abcde", "or")], list(enumerate(deep, start=1)))
        self.assertEqual(truce.clashes(), [(1, 2)])

    def test_alike_rules_with_unlike_labels(self):
        truce = self.check([], [(3, A), (1, A), (2, NOT_A)])
        self.assertEqual((truce.clashes(), truce.peaces()), ([(1, 2), (2, 3)], [(2,), (1, 3)]))

    def test_whether_each_set_is_peaceful(self):
        for firm, heap in [(FIRM, HEAP), *drawn(27, 40, 6, 7)]:
            truce = Truce(firm, heap)
            for part in all_parts(truce.labels()):
                rules = firm + sayings_of(heap, part)
                names = set().union(*(plain_names(rule) for rule in rules))
                peaceful = any(all(plain_truth(rule, facts) for rule in rules) for facts in plain_facts(names))
                self.assertIs(truce.is_peaceful(part), peaceful)

    def test_somewhat_beyond_the_bounds(self):
        firm = random_firm(random.Random(5), 14, list("abcdefghijklm"))
        heap = [(label, ("is", name)) for label, name in enumerate("abcdefghijk", start=1)]
        self.check(firm, heap)
        self.check([], [(1, nested(7)), (2, A), (0, B), (10 ** 20, NOT_B)])


class Papers(unittest.TestCase):
    def check_lines(self, rules, lines):
        self.assertIs(type(lines), list)
        self.assertTrue(is_plain_paper(rules, lines))
        used = {number for line in lines if line[0] == "join" for number in line[1:3]}
        self.assertEqual(used, set(range(len(lines) - 1)))

    def check_facts(self, rules, facts):
        self.assertIs(type(facts), dict)
        self.assertTrue(all(type(truth) is bool for truth in facts.values()))
        self.assertLessEqual(set().union(*(plain_names(rule) for rule in rules)), set(facts))
        self.assertTrue(all(plain_truth(rule, facts) for rule in rules))

    def check_all(self, firm, heap):
        truce = Truce(firm, heap)
        for part in truce.clashes():
            paper = truce.clash_paper(part)
            self.assertEqual((type(paper), len(paper), type(paper[1])), (tuple, 2, list))
            self.check_lines(firm + sayings_of(heap, part), paper[0])
            # None of the sayings can be done without, so the lines lean on each.
            behind = set(range(len(firm), len(firm) + len(part)))
            self.assertLessEqual(behind, set(leaned_on(paper[0])))
            self.assertEqual(len(paper[1]), len(part))
            for label, facts in zip(part, paper[1]):
                self.check_facts(firm + sayings_of(heap, set(part) - {label}), facts)
        for part in truce.peaces():
            paper = truce.peace_paper(part)
            self.assertEqual((type(paper), len(paper), type(paper[1])), (tuple, 2, list))
            self.check_facts(firm + sayings_of(heap, part), paper[0])
            others = [label for label in truce.labels() if label not in part]
            self.assertEqual(len(paper[1]), len(others))
            for label, lines in zip(others, paper[1]):
                self.check_lines(firm + sayings_of(heap, {*part, label}), lines)

    def test_known_ones(self):
        self.check_all(FIRM, HEAP)
        self.assertEqual(Truce([NO], HEAP).clash_paper(()), ([("rule", 0, ())], []))
        self.assertEqual(Truce([], []).peace_paper(()), ({}, []))
        self.assertEqual(Truce([], [(5, NO)]).clash_paper((5,)), ([("rule", 0, ())], [{}]))
        self.assertEqual(Truce([], [(5, NO)]).peace_paper(()), ({}, [[("rule", 0, ())]]))

    def test_of_drawn_truces(self):
        for firm, heap in drawn(28, 60, 5, 10, 5):
            self.check_all(firm, heap)

    def test_of_a_truce_with_twelve_names(self):
        chance = random.Random(4)
        heap = [(30 - number, ("then", ("is", one), ("is", other)))
                for number, (one, other) in enumerate(zip(TWELVE, TWELVE[1:]), start=1)][:10]
        self.check_all([A, ("not", ("is", "k")), *random_firm(chance, 2, TWELVE[2:])], heap)

    def test_a_set_that_is_no_told_clash(self):
        for firm, heap in [(FIRM, HEAP), ([NO], HEAP), ([], []), *drawn(29, 25, 4, 6)]:
            truce = Truce(firm, heap)
            for part in all_parts(truce.labels()):
                if part in truce.clashes():
                    truce.clash_paper(part)
                else:
                    with self.assertRaises(NoClash) as caught:
                        truce.clash_paper(part)
                    self.assertEqual(caught.exception.part, part)
                    self.assertIs(type(caught.exception), NoClash)
                    self.assertIsInstance(caught.exception, TruceError)

    def test_a_set_that_is_no_told_peace(self):
        for firm, heap in [(FIRM, HEAP), ([NO], HEAP), ([], []), *drawn(30, 25, 4, 6)]:
            truce = Truce(firm, heap)
            for part in all_parts(truce.labels()):
                if part in truce.peaces():
                    truce.peace_paper(part)
                else:
                    with self.assertRaises(NoPeace) as caught:
                        truce.peace_paper(part)
                    self.assertEqual(caught.exception.part, part)
                    self.assertIs(type(caught.exception), NoPeace)

    def test_sets_of_other_numbers(self):
        truce = Truce(FIRM, HEAP)
        for part in [(1,), (2, 7, 100), (-3, 2, 7), (0,)]:
            self.assertRaises(NoClash, truce.clash_paper, part)
            self.assertRaises(NoPeace, truce.peace_paper, part)


class Trees(unittest.TestCase):
    def check(self, firm, heap):
        truce = Truce(firm, heap)
        tree, clashes, peaces = truce.tree(), truce.clashes(), truce.peaces()
        self.assertIs(is_tree(truce.labels(), clashes, peaces, tree), True)
        self.assertEqual(strays_of(truce.labels(), clashes, peaces, tree), [])

    def test_known_ones(self):
        for firm, heap in [(FIRM, HEAP), ([NO], HEAP), ([], HEAP), ([], []), ([NO], []), ([], [(1, A)]),
                           ([], [(1, NO)])]:
            self.check(firm, heap)

    def test_drawn_ones(self):
        for firm, heap in drawn(31, 60):
            self.check(firm, heap)

    def test_ten_labels(self):
        chance = random.Random(32)
        for many in (3, 5, 8, 12):
            self.check(random_firm(chance, many // 2, TWELVE[:many]), random_heap(chance, 10, TWELVE[:many]))


class Whole(unittest.TestCase):
    """The first entries of [4], and [2]."""

    def test_each_set_holds_a_clash_or_lies_in_a_peace_never_both(self):
        for firm, heap in drawn(33, 40):
            truce = Truce(firm, heap)
            for part in all_parts(truce.labels()):
                holds = any(set(clash) <= set(part) for clash in truce.clashes())
                lies = any(set(part) <= set(peace) for peace in truce.peaces())
                self.assertNotEqual(holds, lies)
                self.assertIs(truce.is_peaceful(part), lies)

    def test_none_is_a_part_of_another_and_none_is_told_twice(self):
        for firm, heap in drawn(34, 60):
            truce = Truce(firm, heap)
            for family in (truce.clashes(), truce.peaces()):
                for one, other in itertools.permutations(family, 2):
                    self.assertFalse(set(one) <= set(other))

    def test_what_the_peaces_leave_out_are_the_crossings_of_the_clashes(self):
        for firm, heap in drawn(35, 60, 6, 8):
            truce = Truce(firm, heap)
            left_out = others_of(truce.labels(), truce.peaces())
            self.assertEqual(left_out, crossings_of(truce.clashes()))
            self.assertEqual(left_out, plain_crossings(truce.clashes()))
            self.assertEqual(truce.clashes(), crossings_of(left_out))

    def test_what_is_handed_in_stays_and_is_kept_as_a_copy(self):
        for firm, heap in [(FIRM, HEAP), *drawn(36, 20, 5, 6)]:
            one, other = list(firm), list(heap)
            truce = Truce(one, other)
            told = all_told(truce)
            self.assertEqual((one, other), (firm, heap))
            one.append(NO)
            other.append((123, NO))
            other[0] = (1, NO)
            self.assertEqual(all_told(truce), told)
            one.clear()
            other.clear()
            self.assertEqual(all_told(truce), told)

    def test_told_lists_and_dicts_that_are_changed(self):
        for firm, heap in [(FIRM, HEAP), ([NO], HEAP), *drawn(37, 20, 5, 6)]:
            truce = Truce(firm, heap)
            told = all_told(truce)
            kept = copy.deepcopy(told)
            truce.clashes().append((1, 2))
            truce.peaces().clear()
            for lines, rows in told[3]:
                lines.clear()
                for row in rows:
                    row.clear()
                rows.append(None)
            for facts, rows in told[4]:
                facts["a"] = None
                for row in rows:
                    row.append(None)
                rows.clear()
            self.assertEqual(all_told(truce), kept)

    def test_asked_in_any_row(self):
        truce = Truce(FIRM, HEAP)
        tree, paper = truce.tree(), truce.peace_paper((7, 9, FAR))
        other = Truce(FIRM, HEAP)
        self.assertEqual(other.peace_paper((7, 9, FAR)), paper)
        self.assertEqual(other.peaces(), PEACES)
        self.assertEqual(other.clash_paper((2, 7)), truce.clash_paper((2, 7)))
        self.assertRaises(NoClash, other.clash_paper, (2,))
        self.assertEqual(other.tree(), tree)
        self.assertIs(other.is_peaceful((2, 7)), False)
        self.assertEqual(other.clashes(), CLASHES)
        self.assertEqual(other.labels(), (2, 7, 9, FAR))

    def test_two_truces_by_turns(self):
        some = [*drawn(38, 6, 4, 6)]
        apart = [all_told(Truce(firm, heap)) for firm, heap in some]
        truces = [Truce(firm, heap) for firm, heap in some]
        for _ in range(2):
            self.assertEqual([all_told(truce) for truce in truces], apart)


def all_told(truce):
    return [truce.labels(), truce.clashes(), truce.peaces(), [truce.clash_paper(part) for part in truce.clashes()],
            [truce.peace_paper(part) for part in truce.peaces()], truce.tree(),
            [truce.is_peaceful(part) for part in all_parts(truce.labels())]]


if __name__ == "__main__":
    unittest.main()
