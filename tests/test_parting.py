"""[33] and the seventh entry of [4]: the first set in which two truces part."""

import itertools
import random
import unittest

from helper import A, B, C, all_parts, random_firm, random_heap
from truceroll.errors import OtherLabels, TruceError
from truceroll.parting import parting_of
from truceroll.truces import Truce

NOT_A, NOT_B = ("not", A), ("not", B)
YES, NO = ("yes",), ("no",)


def pairs(seed, many, most=6):
    """Two truces over the same labels: of other rules, of a rule changed, of firm rules changed."""
    chance = random.Random(seed)
    for turn in range(many):
        names = list("abcde")[:chance.randint(2, 5)]
        firm = random_firm(chance, chance.randint(0, 3), names)
        heap = random_heap(chance, chance.randint(0, most), names)
        rules = [rule for _, rule in random_heap(chance, len(heap), names)]
        other = [(label, rule) for (label, _), rule in zip(heap, rules)]
        if turn % 3 == 0:
            yield Truce(firm, heap), Truce(firm, other)
        elif turn % 3 == 1:
            yield Truce(firm, heap), Truce(firm, heap[:-1] + other[-1:])
        else:
            yield Truce(firm, heap), Truce(firm + random_firm(chance, 1, names), heap[::-1])


class Parting(unittest.TestCase):
    def check(self, one, other):
        right = ("alike",)
        for part in all_parts(one.labels()):
            if one.is_peaceful(part) != other.is_peaceful(part):
                right = ("other" if one.is_peaceful(part) else "one", part)
                break
        told = parting_of(one, other)
        self.assertEqual((told, type(told)), (right, tuple))
        turned = {"alike": "alike", "one": "other", "other": "one"}
        self.assertEqual(parting_of(other, one), (turned[told[0]], *told[1:]))
        if told[0] == "one":
            self.assertIn(told[1], one.clashes())
        if told[0] == "other":
            self.assertIn(told[1], other.clashes())
        return told

    def test_known_ones(self):
        one = Truce([], [(1, A), (2, NOT_A), (3, B)])
        other = Truce([], [(1, A), (2, NOT_A), (3, NOT_A)])
        self.assertEqual(self.check(one, other), ("other", (1, 3)))
        self.assertEqual(self.check(other, one), ("one", (1, 3)))
        third = Truce([], [(1, A), (2, B), (3, NOT_A)])
        self.assertEqual(self.check(one, third), ("one", (1, 2)))
        self.assertEqual(self.check(third, one), ("other", (1, 2)))

    def test_the_first_set_in_order_whichever_truce_it_clashes_in(self):
        one = Truce([], [(1, A), (2, NOT_A), (3, B), (4, NOT_B)])
        other = Truce([], [(1, A), (2, A), (3, NOT_A), (4, B)])
        self.assertEqual(self.check(one, other), ("one", (1, 2)))
        # One with fewer members comes first, though the other has the lesser ones.
        third = Truce([], [(1, A), (2, A), (3, B), (4, NO)])
        self.assertEqual(self.check(one, third), ("other", (4,)))

    def test_alike(self):
        for one, other in [([(1, A), (2, NOT_A)], [(1, NOT_B), (2, B)]), ([(1, A), (2, B)], [(1, YES), (2, C)]),
                           ([(1, NO)], [(1, ("and", A, NOT_A))]), ([], [])]:
            self.assertEqual(self.check(Truce([], one), Truce([], other)), ("alike",))
        self.assertEqual(self.check(Truce([A], [(1, B), (2, A)]), Truce([], [(2, B), (1, A)])), ("alike",))
        self.assertEqual(self.check(Truce([NO], [(1, B), (2, A)]), Truce([A, NOT_A], [(2, B), (1, A)])), ("alike",))

    def test_a_truce_against_itself(self):
        for one, other in pairs(33, 20):
            self.assertEqual(parting_of(one, one), ("alike",))
            self.assertEqual(parting_of(other, other), ("alike",))

    def test_no_labels(self):
        can, cannot = Truce([A], []), Truce([NO], [])
        self.assertEqual(self.check(can, Truce([], [])), ("alike",))
        self.assertEqual(self.check(cannot, Truce([B, NOT_B], [])), ("alike",))
        self.assertEqual(self.check(can, cannot), ("other", ()))
        self.assertEqual(self.check(cannot, can), ("one", ()))

    def test_firm_rules_that_cannot_hold_together(self):
        heap = [(1, A), (2, NOT_A)]
        self.assertEqual(self.check(Truce([NO], heap), Truce([], heap)), ("one", ()))

    def test_drawn_ones(self):
        told = [self.check(one, other)[0] for one, other in pairs(34, 180)]
        for word in ("alike", "one", "other"):
            self.assertGreater(told.count(word), 15)

    def test_ten_labels(self):
        chance = random.Random(10)
        for _ in range(5):
            names = list("abcdef")
            heap = random_heap(chance, 10, names)
            rules = [rule for _, rule in random_heap(chance, 10, names)]
            self.check(Truce([], heap), Truce([], [(label, rule) for (label, _), rule in zip(heap, rules)]))

    def test_other_labels(self):
        heap = [(1, A), (4, B)]
        for other in [[(1, A)], [(4, B)], [], [(1, A), (4, B), (5, C)], [(1, A), (4, B), (2, C)], [(1, A), (5, B)],
                      [(2, A), (4, B)], [(10 ** 18, A), (4, B)]]:
            for one, another in itertools.permutations([Truce([], heap), Truce([], other)]):
                with self.assertRaises(OtherLabels) as caught:
                    parting_of(one, another)
                self.assertIs(type(caught.exception), OtherLabels)
                self.assertIsInstance(caught.exception, TruceError)

    def test_other_labels_where_the_firm_rules_cannot_hold_together(self):
        self.assertRaises(OtherLabels, parting_of, Truce([NO], [(1, A)]), Truce([NO], []))

    def test_three_truces_by_turns(self):
        three = [Truce([], [(1, A), (2, rule)]) for rule in (NOT_A, B, NO)]
        right = {(0, 1): ("one", (1, 2)), (0, 2): ("other", (2,)), (1, 2): ("other", (2,)), (1, 0): ("other", (1, 2)),
                 (2, 0): ("one", (2,)), (2, 1): ("one", (2,))}
        for _ in range(2):
            for one, other in right:
                self.assertEqual(parting_of(three[one], three[other]), right[one, other])
        self.assertEqual([truce.clashes() for truce in three], [[(1, 2)], [], [(2,)]])


if __name__ == "__main__":
    unittest.main()
