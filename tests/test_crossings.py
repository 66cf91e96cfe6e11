"""[18], [19], and the third entry of [4]: crossings, sets without a number, and freed of it."""

import copy
import itertools
import random
import unittest

from helper import all_parts, plain_crossings, plain_least, plain_order, random_set
from truceroll.crossings import crossings_of, freed, without
from truceroll.sets import least_of, others_of

HUGE = 10 ** 101 - 1
TEN = [-HUGE, -12, -1, 0, 1, 2, 3, 50, 10 ** 18, HUGE]


def families(seed, many, members, most):
    chance = random.Random(seed)
    for turn in range(many):
        some = chance.sample(members, chance.randint(1, len(members)))
        least = 0 if turn % 10 == 0 else 1
        family = [random_set(chance, some, least) for _ in range(chance.randint(0, most))]
        family += chance.sample(family, len(family) // 4)
        chance.shuffle(family)
        yield family


class Crossings(unittest.TestCase):
    def test_of_no_sets(self):
        self.assertEqual(crossings_of([]), [()])

    def test_where_the_one_without_members_is_among_them(self):
        for family in [[()], [(), ()], [(1,), ()], [(), (1,), (2, 3)], [(1, 2), (), (1, 2)]]:
            self.assertEqual(crossings_of(family), [])

    def test_known_ones(self):
        for family, told in [
                ([(1,)], [(1,)]), ([(1, 2)], [(1,), (2,)]), ([(1,), (2,)], [(1, 2)]), ([(1,), (1, 2)], [(1,)]),
                ([(2, 3), (1, 2)], [(2,), (1, 3)]), ([(1, 2), (1, 3), (2, 3)], [(1, 2), (1, 3), (2, 3)]),
                ([(1, 2), (3, 4)], [(1, 3), (1, 4), (2, 3), (2, 4)]), ([(5,), (5,), (5,)], [(5,)]),
                ([(-1, HUGE), (-HUGE, -1)], [(-1,), (-HUGE, HUGE)])]:
            self.assertEqual(crossings_of(family), told, family)

    def test_all_lists_of_sets_of_three_members(self):
        parts = all_parts((1, 2, 3))
        for many in range(4):
            for family in itertools.product(parts, repeat=many):
                self.assertEqual(crossings_of(list(family)), plain_crossings(family), family)

    def test_held_against_a_look_over_all_sets(self):
        for family in families(18, 120, TEN, 12):
            kept = list(family)
            told = crossings_of(family)
            self.assertEqual(told, plain_crossings(family))
            self.assertEqual(family, kept)

    def test_the_crossings_of_the_crossings(self):
        for family in families(19, 150, TEN, 25):
            self.assertEqual(crossings_of(crossings_of(family)), plain_least(family))

    def test_three_hundred_sets_of_ten_members(self):
        chance = random.Random(20)
        for most in (2, 4, 6, 10):
            family = [random_set(chance, TEN, min(most, 4) - 1, most) for _ in range(300)]
            told = crossings_of(family)
            self.assertEqual(told, plain_crossings(least_of(family)))
            self.assertEqual(crossings_of(told), least_of(family))

    def test_all_sets_of_so_many_of_ten(self):
        for many in range(1, 11):
            family = list(itertools.combinations(TEN, many))
            self.assertEqual(crossings_of(family[::-1]), list(itertools.combinations(TEN, 11 - many)))

    def test_somewhat_beyond_the_bounds(self):
        chance = random.Random(21)
        family = [random_set(chance, range(13), 2, 6) for _ in range(310)]
        self.assertEqual(crossings_of(crossings_of(family)), least_of(family))

    def test_what_is_told_is_the_askers_own(self):
        for family in [[], [()], [(1, 2), (2, 3)]]:
            kept = list(family)
            told = crossings_of(family)
            right = copy.deepcopy(told)
            told.append((7,))
            told[0] = (8,)
            self.assertEqual(crossings_of(family), right)
            self.assertEqual(family, kept)
        family = [(1, 2)]
        told = crossings_of(family)
        family.append((9,))
        self.assertEqual(told, [(1,), (2,)])

    def test_what_peaces_leave_out_are_the_crossings_of_the_clashes(self):
        whole = tuple(TEN[:6])
        for clashes in families(22, 60, list(whole), 8):
            peaceful = [part for part in all_parts(whole) if not any(set(clash) <= set(part) for clash in clashes)]
            peaces = [part for part in peaceful if not any(set(part) < set(other) for other in peaceful)]
            self.assertEqual(others_of(whole, peaces), crossings_of(clashes))
            self.assertEqual(crossings_of(others_of(whole, peaces)), least_of(clashes))


class WithoutAndFreed(unittest.TestCase):
    def test_known_ones(self):
        for family, number, left, rest in [
                ([], 1, [], []), ([()], 1, [()], [()]), ([(1,)], 1, [], [()]), ([(1,)], 2, [(1,)], [(1,)]),
                # A number that all hold.
                ([(1, 2), (1, 3), (1, 2)], 1, [], [(2,), (3,)]), ([(1, 2), (1,)], 1, [], [()]),
                # One that a single set holds.
                ([(2, 3), (1, 2), (4,)], 1, [(4,), (2, 3)], [(2,), (4,)]),
                ([(3,), (1, 2), (3,)], 2, [(3,)], [(1,), (3,)]),
                # One that none holds: all are without it, the least are freed of it.
                ([(2, 3), (2,), (2, 3)], 1, [(2,), (2, 3)], [(2,)]),
                ([(-HUGE, HUGE), (HUGE,), (0,)], HUGE, [(0,)], [()])]:
            self.assertEqual(without(family, number), left, (family, number))
            self.assertEqual(freed(family, number), rest, (family, number))

    def test_held_against_pythons_own_sets(self):
        for family in families(23, 150, TEN, 20):
            kept = list(family)
            for number in [*TEN[::3], 77, -HUGE - 1]:
                self.assertEqual(without(family, number), plain_order([part for part in family if number not in part]))
                taken = [tuple(member for member in part if member != number) for part in family]
                self.assertEqual(freed(family, number), plain_least(taken))
            self.assertEqual(family, kept)

    def test_both_sentences_about_crossings(self):
        for family in families(24, 120, TEN, 15):
            for number in [*TEN, 77]:
                crossings = crossings_of(family)
                self.assertEqual(crossings_of(without(family, number)), freed(crossings, number))
                self.assertEqual(crossings_of(freed(family, number)), without(crossings, number))

    def test_what_is_told_is_the_askers_own(self):
        family = [(1, 2), (3,), (2, 3)]
        for tell, right in [(without, [(3,), (2, 3)]), (freed, [(2,), (3,)])]:
            told = tell(family, 1)
            self.assertEqual(told, right)
            told.append(())
            told[0] = ()
            self.assertEqual(tell(family, 1), right)
            self.assertEqual(family, [(1, 2), (3,), (2, 3)])


if __name__ == "__main__":
    unittest.main()
