"""[22], [24], and the third, fifth and last entry of [4]: all clashes and peaces, with few askings."""

import itertools
import random
import unittest

from helper import all_parts, asker_of, plain_greatest, plain_least, random_rules, random_set
from truceroll.crossings import crossings_of
from truceroll.sets import is_set, others_of
from truceroll.solver import answer
from truceroll.sounding import sounded
from truceroll.trees import is_tree, tree_of

HUGE = 10 ** 101 - 1
TEN = [-HUGE, -3, -2, 0, 1, 2, 4, 50, 10 ** 18, HUGE]


class Sounded(unittest.TestCase):
    def check(self, whole, ask):
        asked = []

        def listening(part):
            asked.append(part)
            return ask(part)

        told = sounded(whole, listening)
        self.assertEqual((type(told), len(told)), (tuple, 3))
        clashes, peaces, askings = told
        self.assertTrue(all(type(family) is list for family in told))
        self.assertEqual(askings, asked)
        parts = all_parts(whole)
        self.assertEqual(clashes, plain_least([part for part in parts if not ask(part)]))
        self.assertEqual(peaces, plain_greatest([part for part in parts if ask(part)]))
        self.check_askings(whole, ask, clashes + peaces, askings)
        self.assertEqual(others_of(whole, peaces), crossings_of(clashes))
        self.assertEqual(crossings_of(others_of(whole, peaces)), clashes)
        tree = tree_of(whole, clashes, peaces)
        self.assertEqual(tree[0], "tree")
        self.assertIs(is_tree(whole, clashes, peaces, tree[1]), True)
        return told

    def check_askings(self, whole, ask, found, askings):
        for part in askings:
            self.assertIs(is_set(part), True)
            self.assertLessEqual(set(part), set(whole))
        self.assertLessEqual(set(found), set(askings))
        self.assertLessEqual(len(askings), (len(whole) + 1) * len(found))
        for place, part in enumerate(askings):
            for ahead in askings[:place]:
                if ask(ahead):
                    self.assertFalse(set(part) <= set(ahead), (ahead, part))
                else:
                    self.assertFalse(set(ahead) <= set(part), (ahead, part))

    def test_the_whole_of_no_members(self):
        self.assertEqual(sounded((), lambda part: True), ([], [()], [()]))
        self.assertEqual(sounded((), lambda part: False), ([()], [], [()]))

    def test_an_asker_that_tells_true_of_everything(self):
        for many in range(11):
            whole = tuple(TEN[:many])
            told = self.check(whole, lambda part: True)
            self.assertEqual(told[:2], ([], [whole]))

    def test_an_asker_that_tells_false_of_everything(self):
        for many in range(11):
            told = self.check(tuple(TEN[:many]), lambda part: False)
            self.assertEqual(told[:2], ([()], []))

    def test_the_one_without_members_alone_is_peaceful(self):
        for many in range(1, 11):
            told = self.check(tuple(TEN[:many]), lambda part: part == ())
            self.assertEqual(told[:2], ([(member,) for member in TEN[:many]], [()]))

    def test_all_members_together_alone_clash(self):
        for many in range(1, 11):
            whole = tuple(TEN[:many])
            told = self.check(whole, lambda part: part != whole)
            self.assertEqual(told[:2], ([whole], list(itertools.combinations(whole, many - 1))))

    def test_known_ones(self):
        told = self.check((1, 2, 3), asker_of([(1, 2), (2, 3)]))
        self.assertEqual(told[:2], ([(1, 2), (2, 3)], [(2,), (1, 3)]))
        told = self.check((-1, 0, HUGE), asker_of([(0,), (-1, HUGE)]))
        self.assertEqual(told[:2], ([(0,), (-1, HUGE)], [(-1,), (HUGE,)]))

    def test_all_askers_over_three_members(self):
        parts = all_parts((1, 2, 3))
        seen = set()
        for many in range(4):
            for clashes in itertools.combinations(parts, many):
                told = self.check((1, 2, 3), asker_of(clashes))
                seen.add((tuple(told[0]), tuple(told[1])))
        self.assertEqual(len(seen), 20)

    def test_as_many_as_so_many_are_peaceful(self):
        for many in range(10):
            told = self.check(tuple(TEN), lambda part: len(part) <= many)
            self.assertEqual(told[0], list(itertools.combinations(TEN, many + 1)))
            self.assertEqual(told[1], list(itertools.combinations(TEN, many)))

    def test_many_askers(self):
        chance = random.Random(24)
        for turn in range(110):
            whole = tuple(TEN[:turn % 11]) if turn < 55 else random_set(chance, TEN, 0, turn % 11)
            clashes = [random_set(chance, list(whole), min(1 + turn % 4, len(whole)))
                       for _ in range(chance.randint(0, 8))]
            self.check(whole, asker_of(clashes))

    def test_askers_made_of_peaces(self):
        chance = random.Random(25)
        for turn in range(60):
            whole = tuple(TEN[:1 + turn % 8])
            peaces = [random_set(chance, list(whole)) for _ in range(chance.randint(0, 6))]
            self.check(whole, lambda part: any(set(part) <= set(peace) for peace in peaces))

    def test_askers_that_weigh(self):
        chance = random.Random(26)
        for turn in range(40):
            whole = tuple(TEN[:1 + turn % 9])
            weights = {member: chance.randint(1, 9) for member in whole}
            most = chance.randint(0, 30)
            self.check(whole, lambda part: sum(weights[member] for member in part) <= most)

    def test_rules_as_the_asker(self):
        for seed in range(12):
            rules = random_rules(seed, 7, list("abcd"), 3)
            self.check(tuple(range(7)), lambda part: answer([rules[number] for number in part])[0] == "peace")

    def test_askers_by_turns_and_told_lists_changed_in_between(self):
        chance = random.Random(27)
        some = []
        for _ in range(6):
            whole = random_set(chance, TEN, 3, 6)
            some.append((whole, [random_set(chance, list(whole), 1) for _ in range(4)]))
        first = [sounded(whole, asker_of(clashes)) for whole, clashes in some]
        kept = [tuple(list(family) for family in told) for told in first]
        for told in first:
            told[0].append(())
            told[1].clear()
            told[2].reverse()
        again = [sounded(whole, asker_of(clashes)) for whole, clashes in some[::-1]][::-1]
        self.assertEqual(again, kept)

    def test_an_asker_that_sounds_another_one(self):
        inner = asker_of([(1, 2), (3,)])
        right = sounded((1, 2, 3), inner)

        def ask(part):
            self.assertEqual(sounded((1, 2, 3), inner), right)
            return asker_of([(4, 5), (6,)])(part)

        self.check((4, 5, 6), ask)

    def test_what_is_handed_in_stays(self):
        whole = (1, 2, 3)
        sounded(whole, asker_of([(1, 3)]))
        self.assertEqual(whole, (1, 2, 3))


if __name__ == "__main__":
    unittest.main()
