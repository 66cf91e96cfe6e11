"""[16], [17], and the whole numbers of [2]: sets, their order and parts, the least, the greatest, the others."""

import copy
import itertools
import random
import unittest

from helper import all_parts, nested_far, plain_greatest, plain_least, plain_order, random_set, things_of_other_kinds
from truceroll.sets import greatest_of, in_order, is_part, is_set, least_of, others_of, parts_of, set_of

HUGE = 10 ** 101 - 1
MEMBERS = [-HUGE, -3, 0, 1, 2, 9, HUGE]


class IsSet(unittest.TestCase):
    def test_sets(self):
        for thing in [(), (0,), (1,), (-1,), (HUGE,), (-HUGE,), (1, 2), (-2, -1, 0, 5), (-HUGE, 0, HUGE),
                      tuple(range(-150, 150))]:
            self.assertIs(is_set(thing), True)

    def test_not_rising(self):
        for thing in [(2, 1), (-1, -2), (1, 3, 2), (2, 1, 3), (HUGE, HUGE - 1), (0, -HUGE), (1, 2, 3, 0)]:
            self.assertIs(is_set(thing), False, thing)

    def test_one_twice(self):
        for thing in [(1, 1), (0, 0), (-1, -1), (HUGE, HUGE), (1, 2, 2), (1, 1, 2), (1, 2, 1)]:
            self.assertIs(is_set(thing), False, thing)

    def test_a_truth_among_them(self):
        for thing in [(True,), (False,), (0, True), (False, 1), (True, 2), (False, True), (-1, False, 3), (1, 2, True)]:
            self.assertIs(is_set(thing), False, thing)

    def test_a_list_and_other_kinds(self):
        for thing in [*things_of_other_kinds(), [1], [1, 2], "", "12", {1: True}, {1, 2}, range(2), 1]:
            self.assertIs(is_set(thing), False)

    def test_other_kinds_inside(self):
        for thing in [*things_of_other_kinds(), "", "1", (), (1,), 1.0, 2j]:
            if isinstance(thing, int) and not isinstance(thing, bool):
                continue
            for other in [(thing,), (1, thing), (thing, 1), (1, thing, 2), (thing, thing), (2, 1, thing)]:
                self.assertIs(is_set(other), False)

    def test_nested_far(self):
        far = nested_far()
        for thing in [far, (1, far), (far, 1)]:
            self.assertIs(is_set(thing), False)


class SetOf(unittest.TestCase):
    def test_any_row_and_some_twice(self):
        for numbers, told in [([], ()), ([3], (3,)), ([3, 3], (3,)), ([2, 1], (1, 2)), ([1, -1, 0, -1], (-1, 0, 1)),
                              ([HUGE, -HUGE, HUGE], (-HUGE, HUGE))]:
            self.assertEqual(set_of(numbers), told)

    def test_many(self):
        chance = random.Random(16)
        for _ in range(200):
            numbers = [chance.randint(-20, 20) for _ in range(chance.randint(0, 30))]
            kept = list(numbers)
            told = set_of(numbers)
            self.assertIs(is_set(told), True)
            self.assertEqual(sorted(set(numbers)), list(told))
            self.assertEqual(numbers, kept)


class Parts(unittest.TestCase):
    def test_both_ways(self):
        for one, other, told in [((), (), True), ((), (1,), True), ((1,), (), False), ((1,), (1,), True),
                                 ((1,), (1, 2), True), ((1, 2), (1,), False), ((1, 3), (1, 2, 3), True),
                                 ((1, 4), (1, 2, 3), False), ((-1,), (1,), False), ((HUGE,), (0, HUGE), True),
                                 ((-HUGE, HUGE), (HUGE,), False)]:
            self.assertIs(is_part(one, other), told, (one, other))

    def test_all_over_a_few_members(self):
        parts = all_parts([-HUGE, -1, 0, 2, HUGE])
        for one in parts:
            for other in parts:
                self.assertIs(is_part(one, other), set(one) <= set(other))

    def test_all_parts_of_a_set_in_order(self):
        for whole in [(), (4,), (-HUGE, 0, 7), tuple(range(-5, 5))]:
            self.assertEqual(parts_of(whole), all_parts(whole))


class Order(unittest.TestCase):
    def test_in_order_and_each_once(self):
        right = [(), (-HUGE,), (-2,), (0,), (3,), (HUGE,), (-2, 0), (-2, 7), (0, 1), (0, 2), (1, 2), (-9, 3, 4),
                 (0, 1, 9), (0, 2, 3)]
        self.assertEqual(in_order(right), right)
        self.assertEqual(in_order(right[::-1]), right)
        self.assertEqual(in_order(right[4:] + right + right[:9]), right)
        self.assertEqual(in_order([]), [])
        self.assertEqual(in_order([(), ()]), [()])

    def test_any_two(self):
        told = in_order(all_parts(MEMBERS)[::-1])
        self.assertEqual(len(told), 2 ** len(MEMBERS))
        for one, other in itertools.combinations(told, 2):
            if len(one) == len(other):
                place = [one[k] == other[k] for k in range(len(one))].index(False)
                self.assertLess(one[place], other[place])
            else:
                self.assertLess(len(one), len(other))

    def test_the_list_stays_and_the_told_one_is_the_askers_own(self):
        family = [(2, 3), (1,), (2, 3), ()]
        told = in_order(family)
        self.assertEqual(family, [(2, 3), (1,), (2, 3), ()])
        told.append((9,))
        told[0] = None
        self.assertEqual(in_order(family), [(), (1,), (2, 3)])
        right = [(), (1,)]
        in_order(right).clear()
        self.assertEqual(right, [(), (1,)])
        again = in_order(right)
        right.clear()
        self.assertEqual(again, [(), (1,)])


class LeastAndGreatest(unittest.TestCase):
    def test_known_ones(self):
        for family, least, greatest in [
                ([], [], []), ([()], [()], [()]), ([(), ()], [()], [()]), ([(1,)], [(1,)], [(1,)]),
                ([(1, 2), (1,)], [(1,)], [(1, 2)]), ([(), (1,), (2,)], [()], [(1,), (2,)]),
                ([(2,), (1,), (2,), (1, 3)], [(1,), (2,)], [(2,), (1, 3)]),
                ([(1, 2), (2, 3), (1, 3)], [(1, 2), (1, 3), (2, 3)], [(1, 2), (1, 3), (2, 3)]),
                ([(HUGE,), (-HUGE, HUGE), (-HUGE,)], [(-HUGE,), (HUGE,)], [(-HUGE, HUGE)])]:
            self.assertEqual(least_of(family), least)
            self.assertEqual(greatest_of(family), greatest)

    def test_held_against_each_pair(self):
        chance = random.Random(17)
        for turn in range(150):
            family = [random_set(chance, MEMBERS, 0, turn % 7 + 1) for _ in range(turn % 40)]
            family += chance.sample(family, len(family) // 3)
            kept = list(family)
            self.assertEqual(least_of(family), plain_least(family))
            self.assertEqual(greatest_of(family), plain_greatest(family))
            self.assertEqual(family, kept)
            chance.shuffle(family)
            self.assertEqual(least_of(family), plain_least(kept))
            self.assertEqual(greatest_of(family), plain_greatest(kept))

    def test_three_hundred_sets(self):
        fives = list(itertools.combinations(range(10), 5))
        family = fives[::-1] + fives[:48]
        self.assertEqual(len(family), 300)
        self.assertEqual(least_of(family), fives)
        self.assertEqual(greatest_of(family), fives)
        self.assertEqual(least_of(family + [()]), [()])
        self.assertEqual(greatest_of(family + [tuple(range(10))]), [tuple(range(10))])

    def test_what_is_told_is_the_askers_own(self):
        family = [(1,), (1, 2), (3,)]
        for tell, right in [(least_of, [(1,), (3,)]), (greatest_of, [(3,), (1, 2)]),
                            (lambda sets: others_of((1, 2, 3), sets), [(3,), (1, 2), (2, 3)])]:
            told = tell(family)
            self.assertEqual(told, right)
            told.append(())
            told[0] = ()
            self.assertEqual(tell(family), right)
            self.assertEqual(family, [(1,), (1, 2), (3,)])


class Others(unittest.TestCase):
    def test_known_ones(self):
        whole = (1, 2, 4)
        for family, told in [([], []), ([()], [whole]), ([whole], [()]), ([(1,), (1, 2)], [(4,), (2, 4)]),
                             ([(2,), (1,), (2,)], [(1, 4), (2, 4)]), ([(3,)], [whole]),
                             ([(0, 1), (1, 9), (1,)], [(2, 4)]), ([(0, 1, 2, 3, 4, 5), (-1,)], [(), whole])]:
            self.assertEqual(others_of(whole, family), told, family)
        self.assertEqual(others_of((), []), [])
        self.assertEqual(others_of((), [(), (1,), (2, 3)]), [()])

    def test_held_against_pythons_own_sets(self):
        chance = random.Random(18)
        for turn in range(150):
            whole = random_set(chance, MEMBERS)
            family = [random_set(chance, MEMBERS) for _ in range(turn % 30)]
            kept = copy.deepcopy(family)
            right = plain_order([tuple(sorted(set(whole) - set(part))) for part in family])
            self.assertEqual(others_of(whole, family), right)
            self.assertEqual(family, kept)

    def test_the_others_of_the_others(self):
        whole = tuple(MEMBERS)
        self.assertEqual(others_of(whole, others_of(whole, all_parts(whole))), all_parts(whole))


if __name__ == "__main__":
    unittest.main()
