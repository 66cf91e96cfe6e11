"""[25]: heaps, and the place of the first thing that makes a thing none."""

import copy
import random
import unittest

from helper import A, B, C, TWO, all_of, nested, nested_far, random_rules, things_of_other_kinds
from truceroll.errors import BadHeap
from truceroll.heaps import heap_of

MOST = 10 ** 18
TWELVE = list("abcdefghijkl")
YES = ("yes",)


def some_heap(many, rule=A):
    return [(label, rule) for label in range(many, 0, -1)]


class Heaps(unittest.TestCase):
    def refused(self, thing, place):
        with self.assertRaises(BadHeap) as taken:
            heap_of(thing)
        self.assertIs(type(taken.exception), BadHeap)
        self.assertIs(type(taken.exception.place), int)
        self.assertEqual(taken.exception.place, place)

    def refused_at_each_place(self, saying):
        for ahead in range(10):
            heap = [(label, A) for label in range(101, 101 + ahead)]
            self.refused([*heap, saying], ahead + 1)
            self.refused([*heap, saying, *[(50, B)] * (9 - ahead)], ahead + 1)

    def test_heaps(self):
        for heap, told in [
                ([], []), ([(1, A)], [(1, A)]), ([(2, A), (1, B)], [(1, B), (2, A)]),
                ([(MOST, YES), (1, ("no",)), (10, A), (9, A)], [(1, ("no",)), (9, A), (10, A), (MOST, YES)])]:
            self.assertEqual(heap_of(heap), told)
            self.assertIs(type(heap_of(heap)), list)

    def test_sorted_by_labels_whatever_the_rules(self):
        chance = random.Random(25)
        for seed in range(60):
            rules = random_rules(seed, seed % 11, TWELVE[:9])
            heap = list(zip(chance.sample(range(1, 400), len(rules)), rules))
            kept = copy.deepcopy(heap)
            told = heap_of(heap)
            self.assertEqual(sorted(kept, key=lambda saying: saying[0]), told)
            self.assertEqual(heap, kept)

    def test_the_same_rule_under_two_labels(self):
        self.assertEqual(heap_of([(7, A), (3, A)]), [(3, A), (7, A)])

    def test_ten_sayings_and_eleven(self):
        self.assertEqual(heap_of(some_heap(10)), some_heap(10)[::-1])
        for many in (11, 12, 300):
            self.refused(some_heap(many), 0)
        # The length goes ahead of all that stands in it.
        self.refused([None, *some_heap(10)], 0)
        self.refused([None] * 11, 0)
        self.refused([*some_heap(9), (9, A), (9, A)], 0)

    def test_no_list(self):
        for thing in [*things_of_other_kinds(), "", "heap", (), ((1, A),), ((2, A), (1, B)), {1: A}, (1, A),
                      nested_far()]:
            if not isinstance(thing, list):
                self.refused(thing, 0)

    def test_things_that_are_no_sayings(self):
        for thing in [*things_of_other_kinds(), "", "ab", (), (1,), (A,), (1, A, A), (1, A, None), (A, 1), [1, A],
                      ((1, A),), A, nested_far()]:
            self.refused_at_each_place(thing)

    def test_labels_that_are_none(self):
        for label in [True, False, 0, -1, -MOST, MOST + 1, 10 ** 100, -10 ** 100, 1.0, "1", None, (1,), [1], A,
                      nested_far(), *things_of_other_kinds()]:
            if not (type(label) is int and label == 1):
                self.refused_at_each_place((label, A))

    def test_the_first_and_the_last_label(self):
        self.assertEqual(heap_of([(MOST, A), (1, A), (MOST - 1, A), (2, A)]),
                         [(1, A), (2, A), (MOST - 1, A), (MOST, A)])

    def test_rules_that_are_none(self):
        rules = [nested(7), nested(7, YES), all_of(TWELVE[:6]), ["is", "a"], ("is", ["a"]), ("not", ["is", "a"]),
                 ("not",), ("not", A, B), ("and", A), ("and", A, B, C), ("yes", A), ("is",), ("is", "a", "b"), (),
                 ("maybe",), ("is", "A"), ("is", ""), ("is", "abcdefghi"), "yes", "is a", nested_far(), nested(5000)]
        for word in TWO:
            rules += [(word, A), (word, A, B, C), (word, A, nested(6)), (word, A, "b")]
        for rule in [*rules, *things_of_other_kinds()]:
            self.refused_at_each_place((1, rule))

    def test_rules_at_the_bounds(self):
        for rule in [nested(6), nested(6, YES), all_of(TWELVE[:5]), ("and", nested(5), nested(5, B))]:
            self.assertEqual(heap_of([(1, rule)]), [(1, rule)])

    def test_a_label_that_came_ahead(self):
        self.refused([(1, A), (1, A)], 2)
        self.refused([(1, A), (1, B)], 2)
        self.refused([(1, A), (2, A), (1, B)], 3)
        self.refused([(1, A), (2, A), (2, B), (1, B)], 3)
        self.refused([(MOST, A), (3, A), (MOST, A)], 3)
        for place in range(1, 10):
            heap = some_heap(10)
            heap[place] = (heap[0][0], B)
            self.refused(heap, place + 1)

    def test_twelve_unlike_names_and_more(self):
        one, other, third = all_of(TWELVE[:5]), all_of(TWELVE[5:10]), all_of(TWELVE[10:])
        full = [(3, one), (2, other), (1, third)]
        self.assertEqual(heap_of(full), full[::-1])
        self.assertEqual(heap_of([*full, (4, all_of("lkjia"))]), [*full[::-1], (4, all_of("lkjia"))])
        self.refused([*full, (4, ("is", "m"))], 4)
        self.refused([(4, ("is", "m")), *full], 4)
        self.refused([(4, ("is", "m")), (5, third), (6, other), (7, all_of("abcd")), (8, ("is", "e"))], 5)
        self.refused([*full, (4, A), (5, YES), (6, ("or", A, ("is", "aa"))), (7, ("is", "z"))], 6)
        self.assertEqual(len(heap_of([(k + 1, ("is", name)) for k, name in enumerate(TWELVE[:10])])), 10)

    def test_the_first_of_several_faults(self):
        many = [(3, all_of(TWELVE[:5])), (2, all_of(TWELVE[5:10])), (1, all_of(TWELVE[10:]))]
        self.refused([*many, (4, ("is", "m")), (4, A), None], 4)
        self.refused([*many, (3, A), (4, ("is", "m"))], 4)
        self.refused([*many, None, (4, ("is", "m"))], 4)
        self.refused([None, (1, A), (1, A)], 1)
        self.refused([(1, A), (True, A), (1, A)], 2)
        # What stands behind a label that came ahead doesn't count.
        self.refused([(1, A), (1, all_of("bcdef")), (2, None)], 2)

    def test_a_heap_within_itself(self):
        knot = []
        knot.append(knot)
        self.refused(knot, 1)
        knot[0] = (1, knot)
        self.refused(knot, 1)

    def test_what_is_refused_stays(self):
        for thing in [[(2, A), (1, B), None], [(2, A), (2, A)], some_heap(11)]:
            kept = copy.deepcopy(thing)
            self.assertRaises(BadHeap, heap_of, thing)
            self.assertEqual(thing, kept)

    def test_a_told_list_is_the_askers_own(self):
        for heap in [[], [(1, A)], [(2, A), (1, B)], [(1, A), (2, B)]]:
            kept = copy.deepcopy(heap)
            told = heap_of(heap)
            right = list(told)
            told.append((9, C))
            told[0] = None
            self.assertEqual(heap, kept)
            self.assertEqual(heap_of(heap), right)
            again = heap_of(heap)
            heap.clear()
            self.assertEqual(again, right)


if __name__ == "__main__":
    unittest.main()
