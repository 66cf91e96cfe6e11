"""[30] and the sixth entry of [4]: the least reasons for a wish, what must be given up for it, how it stands."""

import copy
import random
import unittest

from helper import (A, B, C, all_of, all_parts, nested, plain_crossings, plain_holding, plain_least, plain_truce,
                    random_firm, random_heap, random_saying)
from truceroll.crossings import crossings_of
from truceroll.reasons import reasons_for, retreats_from, standing_of
from truceroll.sets import is_set

YES, NO = ("yes",), ("no",)
NOT_A, NOT_B, NOT_C = ("not", A), ("not", B), ("not", C)
TWELVE = list("abcdefghijkl")
WISHED = 10 ** 19

FIRM = [("then", A, B)]
HEAP = [(5, C), (1, A), (3, ("then", C, B)), (4, NOT_B)]


def plain_enough(firm, heap, wish):
    """A look over all facts, those of the wish's names too: each set of labels, and whether it is enough."""
    labels = [label for label, _ in heap]
    holding = plain_holding(firm, [*heap, (WISHED, wish)])
    return {part: all(WISHED in one for one in holding if set(part) <= one) for part in all_parts(labels)}


def drawn(seed, many, most_firm=4, most_sayings=8, names=6):
    chance = random.Random(seed)
    for turn in range(many):
        few = TWELVE[:chance.randint(2, names)]
        firm = random_firm(chance, min(chance.randint(0, most_firm) for _ in range(2)), few)
        heap = random_heap(chance, chance.randint(0, most_sayings), few)
        wish = random_saying(chance, few)
        while deep(wish) > 5:
            wish = wish[1]
        if turn % 4 == 1 and heap:
            wish = next((rule for _, rule in heap if deep(rule) <= 5), wish)
        if turn % 4 == 2:
            wish = ("or", wish if deep(wish) < 5 else NOT_A, ("is", "zz"))
        yield firm, heap, wish


def deep(rule):
    return 1 if rule[0] in ("yes", "no", "is") else 1 + max(deep(part) for part in rule[1:])


class Reasons(unittest.TestCase):
    def check(self, firm, heap, wish):
        enough = plain_enough(firm, heap, wish)
        labels = sorted(label for label, _ in heap)
        reasons = plain_least([part for part in enough if enough[part]])
        retreats = plain_least([part for part in enough
                                if not enough[tuple(label for label in labels if label not in part)]])
        peaces = plain_truce(firm, heap)[1]
        told = (reasons_for(firm, heap, wish), retreats_from(firm, heap, wish), standing_of(firm, heap, wish))
        self.assertEqual(told, (reasons, retreats, (sum(enough[part] for part in peaces), len(peaces))))
        self.assertEqual([type(part) for part in told], [list, list, tuple])
        self.assertEqual([type(number) for number in told[2]], [int, int])
        self.assertTrue(all(is_set(part) for part in told[0] + told[1]))
        self.assertEqual(told[1], crossings_of(told[0]))
        self.assertEqual(told[1], plain_crossings(told[0]))
        return told

    def test_known_ones(self):
        self.assertEqual(self.check(FIRM, HEAP, B), ([(1,), (3, 5)], [(1, 3), (1, 5)], (1, 3)))
        self.assertEqual(self.check(FIRM, HEAP, NOT_A), ([(4,)], [(4,)], (2, 3)))
        self.assertEqual(self.check([], [(2, A), (1, ("then", A, B))], B), ([(1, 2)], [(1,), (2,)], (1, 1)))

    def test_what_clashes_is_enough_for_any_wish(self):
        told = self.check([], [(1, A), (2, NOT_A)], ("is", "zz"))
        self.assertEqual(told, ([(1, 2)], [(1,), (2,)], (0, 2)))
        self.assertEqual(self.check([], [(1, A), (2, NOT_A), (3, ("is", "zz"))], ("is", "zz"))[0], [(3,), (1, 2)])

    def test_yes_and_no(self):
        for firm, heap in [([], []), (FIRM, HEAP), ([], [(1, A), (2, NOT_A)])]:
            told = self.check(firm, heap, YES)
            self.assertEqual(told[:2], ([()], []))
            self.assertEqual(told[2][0], told[2][1])
            told = self.check(firm, heap, NO)
            self.assertEqual(told[0], plain_truce(firm, heap)[0])
            self.assertEqual(told[2][0], 0)

    def test_a_wish_for_which_nothing_is_enough(self):
        self.assertEqual(self.check([], [(1, A), (2, B)], C), ([], [()], (0, 1)))
        self.assertEqual(self.check([], [], A), ([], [()], (0, 1)))

    def test_a_wish_for_which_the_firm_rules_are_enough(self):
        self.assertEqual(self.check([A], [(1, B), (2, NOT_B)], A), ([()], [], (2, 2)))
        self.assertEqual(self.check([A], [], ("or", A, B)), ([()], [], (1, 1)))

    def test_firm_rules_that_cannot_hold_together(self):
        for firm in [[NO], [A, NOT_A]]:
            for heap in [[], HEAP]:
                for wish in [A, NO, YES, ("is", "zz")]:
                    self.assertEqual(self.check(firm, heap, wish), ([()], [], (0, 0)))

    def test_sayings_of_the_heap_as_wishes(self):
        for label, rule in HEAP:
            told = self.check(FIRM, HEAP, rule)
            self.assertIn((label,), told[0])

    def test_drawn_wishes(self):
        kinds = set()
        for firm, heap, wish in drawn(30, 140):
            told = self.check(firm, heap, wish)
            kinds.add((min(len(told[0]), 3), told[2][0] in (0, told[2][1])))
        self.assertGreaterEqual(len(kinds), 6)

    def test_eleven_firm_rules_ten_sayings_twelve_names(self):
        chance = random.Random(11)
        for turn in range(8):
            firm = random_firm(chance, 11, TWELVE)
            heap = random_heap(chance, 10, TWELVE)
            wish = [random_saying(chance, TWELVE[:4]), all_of("abcde", "or"), all_of("hijkl", "and")][turn % 3]
            self.check(firm, heap, wish if deep(wish) <= 5 else A)

    def test_wishes_five_deep(self):
        self.assertEqual(self.check([], [(1, A), (2, NOT_A)], nested(5))[0], [(1,)])
        self.assertEqual(self.check([], [(1, A), (2, NOT_A)], nested(4))[0], [(2,)])

    def test_any_row_of_the_heap_and_of_the_firm_rules(self):
        firm = [*FIRM, ("or", A, C)]
        for wish in [B, C, NOT_A]:
            told = self.check(firm, HEAP, wish)
            for heap in [HEAP[::-1], sorted(HEAP)]:
                self.assertEqual(self.check(firm[::-1], heap, wish), told)

    def test_what_is_handed_in_stays_and_what_is_told_is_the_askers_own(self):
        for firm, heap, wish in [(FIRM, HEAP, B), *drawn(31, 10)]:
            one, other = copy.deepcopy((firm, heap))
            told = (reasons_for(one, other, wish), retreats_from(one, other, wish), standing_of(one, other, wish))
            self.assertEqual((one, other), (firm, heap))
            kept = copy.deepcopy(told)
            told[0].append((77,))
            told[1].clear()
            self.assertEqual((reasons_for(firm, heap, wish), retreats_from(firm, heap, wish),
                              standing_of(firm, heap, wish)), kept)


if __name__ == "__main__":
    unittest.main()
