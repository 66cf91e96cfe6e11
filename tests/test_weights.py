"""[31], [32] and the seventh entry of [4]: blames, how many sets are peaceful, the cheapest truce and its tree."""

import copy
import fractions
import itertools
import math
import random
import unittest

from helper import all_parts, nested_far, plain_crossings, random_firm, random_heap, random_set, things_of_other_kinds
from truceroll.errors import NoTruce, TruceError
from truceroll.truces import Truce
from truceroll.weights import blames_of, cheapest_truce, is_cost_tree, peaceful_many

HUGE = 10 ** 101 - 1
TEN = [-HUGE, -3, -2, 0, 1, 2, 4, 50, 10 ** 18, HUGE]
DEAR = ("dear",)

# Two crossings weigh 4: that with 2 alone comes first.
WEIGHTS = {1: 1, 2: 4, 3: 3, 9: 100}
CLASHES = [(1, 2), (2, 3)]
TREE = ("by", (1, 2), [("by", (2, 3), [DEAR, DEAR]), DEAR])


def families(seed, many, members=TEN, most=12):
    chance = random.Random(seed)
    for turn in range(many):
        few = chance.sample(members, chance.randint(1, len(members)))
        sets = {random_set(chance, few, 1, min(len(few), 1 + turn % 6)) for _ in range(chance.randint(0, most))}
        family = list(sets)
        chance.shuffle(family)
        yield chance, family


def members_of(family):
    return sorted(set().union(*family))


def shares_of(family):
    """By the words of [31]."""
    return {member: sum(fractions.Fraction(1, len(part)) for part in family if member in part)
            for member in members_of(family)}


class Blames(unittest.TestCase):
    def check(self, family):
        told = blames_of(family)
        self.assertIs(type(told), dict)
        shares = shares_of(family)
        self.assertEqual(told, {member: (share.numerator, share.denominator) for member, share in shares.items()})
        for blame in told.values():
            self.assertEqual([type(part) for part in (blame, *blame)], [tuple, int, int])
            self.assertGreaterEqual(blame[1], 1)
            self.assertEqual(math.gcd(*blame), 1)
        self.assertEqual(sum(fractions.Fraction(*blame) for blame in told.values()),
                         len([part for part in family if part != ()]))
        return told

    def test_known_ones(self):
        self.assertEqual(self.check([(1, 2), (1, 3)]), {1: (1, 1), 2: (1, 2), 3: (1, 2)})
        self.assertEqual(self.check([(1, 2), (1, 2, 3)]), {1: (5, 6), 2: (5, 6), 3: (1, 3)})
        self.assertEqual(self.check([(1, 2, 3, 4), (1, 5, 6, 7)])[1], (1, 2))
        self.assertEqual(self.check([(7,)]), {7: (1, 1)})

    def test_no_clashes_and_one_without_members(self):
        self.assertEqual(self.check([]), {})
        self.assertEqual(self.check([()]), {})
        self.assertEqual(self.check([(1, 2), (), (2,)]), {1: (1, 2), 2: (3, 2)})

    def test_sets_within_one_another(self):
        self.check([(1,), (1, 2), (1, 2, 3), (3,), (2, 3), ()])
        self.check(all_parts((1, 2, 3, 4, 5)))

    def test_members_below_0_and_huge(self):
        self.assertEqual(self.check([(-HUGE, 0), (0, HUGE)]), {-HUGE: (1, 2), 0: (1, 1), HUGE: (1, 2)})

    def test_drawn_ones(self):
        for _, family in families(31, 150):
            self.check(family)

    def test_many_sets(self):
        for many in (2, 5, 7):
            told = self.check(list(itertools.combinations(TEN, many))[::-1])
            self.assertEqual(set(told), set(TEN))
        self.check(all_parts(TEN)[1:253])
        self.check(all_parts(TEN)[-252:])

    def test_the_row_of_the_clashes_does_not_count(self):
        family = [(1, 2), (2, 3, 4), (4,), (1, 3, 4, 5)]
        for row in itertools.permutations(family):
            self.assertEqual(list(blames_of(list(row)).items()), list(blames_of(family).items()))

    def test_what_is_handed_in_stays_and_what_is_told_is_the_askers_own(self):
        family = [(2, 3), (1, 2)]
        told = blames_of(family)
        self.assertEqual(family, [(2, 3), (1, 2)])
        told.clear()
        self.assertEqual(blames_of(family), {1: (1, 2), 2: (1, 1), 3: (1, 2)})


class Many(unittest.TestCase):
    def check(self, whole, peaces):
        many = len([part for part in all_parts(whole) if any(set(part) <= set(peace) for peace in peaces)])
        told = peaceful_many(whole, peaces)
        self.assertEqual((told, type(told)), (many, int))
        return told

    def test_known_ones(self):
        self.assertEqual(self.check((1, 2, 3), [(1, 2), (3,)]), 5)
        self.assertEqual(self.check((1, 2, 3), [(1, 2), (2, 3)]), 6)

    def test_no_peaces_the_empty_one_and_the_whole(self):
        for many in range(11):
            whole = tuple(TEN[:many])
            self.assertEqual(self.check(whole, []), 0)
            self.assertEqual(self.check(whole, [()]), 1)
            self.assertEqual(self.check(whole, [whole]), 2 ** many)
            self.assertEqual(self.check(whole, [whole, ()]), 2 ** many)

    def test_peaces_within_one_another(self):
        self.assertEqual(self.check((1, 2, 3), [(1,), (1, 2), (), (2,)]), 4)
        self.check(tuple(TEN), all_parts(TEN[:7])[3:])

    def test_ten_members(self):
        for many in (1, 3, 5, 9):
            told = self.check(tuple(TEN), list(itertools.combinations(TEN, many)))
            self.assertEqual(told, sum(math.comb(10, number) for number in range(many + 1)))

    def test_drawn_ones(self):
        chance = random.Random(311)
        for turn in range(80):
            whole = random_set(chance, TEN, 0, turn % 11)
            peaces = list({random_set(chance, list(whole)) for _ in range(chance.randint(0, 8))})
            self.check(whole, peaces)

    def test_of_a_truce(self):
        for seed in range(10):
            chance = random.Random(seed)
            names = list("abcde")
            truce = Truce(random_firm(chance, 3, names), random_heap(chance, 7, names))
            told = self.check(truce.labels(), truce.peaces())
            self.assertEqual(told, sum(truce.is_peaceful(part) for part in all_parts(truce.labels())))

    def test_what_is_handed_in_stays(self):
        peaces = [(2, 3), (1,)]
        self.assertEqual([peaceful_many((1, 2, 3), peaces), peaceful_many((1, 2, 3), peaces)], [5, 5])
        self.assertEqual(peaces, [(2, 3), (1,)])


def is_plain_cost_tree(weights, clashes, cost, tree, taken=frozenset(), shut=frozenset()):
    """By the words of [32], for things that are built of trees' tuples and lists."""
    if tree == DEAR:
        return sum(weights[member] for member in taken) >= cost
    clash, trees = tree[1:]
    if clash not in clashes or taken & set(clash):
        return False
    members = [member for member in clash if member not in shut]
    return len(trees) == len(members) and all(
        is_plain_cost_tree(weights, clashes, cost, below, taken | {member},
                           shut | {lesser for lesser in clash if lesser < member})
        for member, below in zip(members, trees))


def spots_of(tree, spot=()):
    """The way to each tree within the tree, by its number in the list at each step."""
    if tree == DEAR:
        return [spot]
    return [spot] + [other for number, below in enumerate(tree[2]) for other in spots_of(below, spot + (number,))]


def tree_at(tree, spot):
    for number in spot:
        tree = tree[2][number]
    return tree


def with_tree(tree, spot, thing):
    if spot == ():
        return thing
    trees = list(tree[2])
    trees[spot[0]] = with_tree(trees[spot[0]], spot[1:], thing)
    return (tree[0], tree[1], trees)


def put_otherwise(chance, clashes, tree):
    spots = spots_of(tree)
    spot = chance.choice(spots)
    here, other = tree_at(tree, spot), tree_at(tree, chance.choice(spots))
    things = [DEAR, other, ("by", chance.choice([*clashes, (77,)]), [])]
    if here != DEAR:
        word, clash, trees = here
        place = chance.randrange(len(trees) + 1)
        things += [(word, clash, trees[::-1]), (word, clash, trees[:place] + trees[place + 1:]),
                   (word, clash, trees[:place] + [other] + trees[place:]), (word, chance.choice(clashes), trees),
                   (word, clash[1:], trees), (word, clash[1:], trees[1:])]
    return with_tree(tree, spot, chance.choice(things))


class Cheapest(unittest.TestCase):
    def check(self, weights, clashes):
        told = cheapest_truce(weights, clashes)
        self.assertEqual((type(told), len(told)), (tuple, 3))
        crossings = plain_crossings(clashes)
        cost = min(sum(weights[member] for member in part) for part in crossings)
        first = [part for part in crossings if sum(weights[member] for member in part) == cost][0]
        self.assertEqual(told[:2], (cost, first))
        self.assertTrue(is_plain_cost_tree(weights, clashes, cost, told[2]))
        self.check_costs(weights, clashes, cost, told[2])
        return told

    def check_costs(self, weights, clashes, cost, tree):
        self.assertIs(is_cost_tree(weights, clashes, cost, tree), True)
        for less in (cost - 1, 0, -5, -HUGE):
            self.assertIs(is_cost_tree(weights, clashes, less, tree), less <= cost)
        for more in (cost + 1, cost + HUGE):
            self.assertIs(is_cost_tree(weights, clashes, more, tree), False)

    def test_known_ones(self):
        told = self.check(WEIGHTS, CLASHES)
        self.assertEqual(told[:2], (4, (2,)))
        self.assertEqual(self.check({1: 1, 2: 5, 3: 3}, CLASHES)[:2], (4, (1, 3)))
        self.assertEqual(self.check({1: 1, 2: 3, 3: 3}, CLASHES)[:2], (3, (2,)))

    def test_no_clashes(self):
        self.assertEqual(self.check({}, []), (0, (), DEAR))
        self.assertEqual(self.check({1: 5}, []), (0, (), DEAR))

    def test_a_clash_without_members(self):
        for clashes in [[()], [(1, 2), ()], [(), (1,)]]:
            with self.assertRaises(NoTruce) as caught:
                cheapest_truce({1: 1, 2: 2}, clashes)
            self.assertIs(type(caught.exception), NoTruce)
            self.assertIsInstance(caught.exception, TruceError)

    def test_weights_of_0(self):
        self.assertEqual(self.check({1: 0, 2: 0, 3: 0}, CLASHES), (0, (2,), DEAR))
        self.assertEqual(self.check({1: 0, 2: 1, 3: 0}, CLASHES)[:2], (0, (1, 3)))
        self.assertEqual(self.check({1: 0, 2: 0, 3: 1}, CLASHES)[:2], (0, (2,)))

    def test_huge_weights(self):
        self.assertEqual(self.check({1: 10 ** 100, 2: 2 * 10 ** 100 + 1, 3: 10 ** 100}, CLASHES)[:2],
                         (2 * 10 ** 100, (1, 3)))
        self.assertEqual(self.check({1: 10 ** 100, 2: 2 * 10 ** 100, 3: 10 ** 100}, CLASHES)[:2],
                         (2 * 10 ** 100, (2,)))

    def test_of_those_that_weigh_the_same_the_first(self):
        alike = {member: 1 for member in TEN}
        self.assertEqual(self.check(alike, list(itertools.combinations(TEN, 5))[::-1])[:2], (6, tuple(TEN[:6])))
        self.assertEqual(self.check(alike, [(4, 50), (0, 1)])[:2], (2, (0, 4)))
        self.assertEqual(self.check({1: 2, 2: 1, 3: 1, 4: 1, 5: 1}, [(1, 2), (1, 3), (4, 5)])[:2], (3, (1, 4)))

    def test_weights_of_numbers_in_no_clash(self):
        for more in [{}, {50: 0}, {50: 0, -7: 10 ** 100, 0: 3}]:
            self.assertEqual(self.check({**WEIGHTS, **more}, CLASHES)[:2], (4, (2,)))

    def test_members_below_0_and_huge(self):
        self.assertEqual(self.check({-HUGE: 1, 0: 3, HUGE: 1}, [(-HUGE, 0), (0, HUGE)])[:2], (2, (-HUGE, HUGE)))

    def test_sets_within_one_another(self):
        self.assertEqual(self.check({1: 5, 2: 1, 3: 1}, [(1, 2, 3), (1,), (1, 3)])[:2], (5, (1,)))

    def test_drawn_ones(self):
        for turn, (chance, family) in enumerate(families(32, 200, TEN, 45)):
            most = (1, 3, 20, 10 ** 100)[turn % 4]
            self.check({member: chance.randint(0, most) for member in TEN}, family)

    def test_the_row_of_clashes_and_weights_does_not_count(self):
        for row in itertools.permutations([(1, 2), (2, 3), (3, 4), (1, 4)]):
            for weights in itertools.permutations({1: 2, 2: 1, 3: 2, 4: 3}.items()):
                self.assertEqual(cheapest_truce(dict(weights), list(row))[:2], (4, (1, 3)))

    def test_of_truces(self):
        for seed in range(25):
            chance = random.Random(seed)
            names = list("abcdef")
            truce = Truce(random_firm(chance, seed % 4, names), random_heap(chance, 10, names))
            if truce.clashes() != [()]:
                self.check({label: chance.randint(0, 9) for label in truce.labels()}, truce.clashes())

    def test_none_weighs_less(self):
        for chance, family in families(33, 30, TEN[:7]):
            weights = {member: chance.randint(0, 6) for member in TEN}
            cost = cheapest_truce(weights, family)[0]
            for part in all_parts(members_of(family)):
                if all(set(part) & set(clash) for clash in family):
                    self.assertGreaterEqual(sum(weights[member] for member in part), cost)

    def test_what_is_handed_in_stays_and_what_is_told_is_the_askers_own(self):
        weights, clashes = dict(WEIGHTS), list(CLASHES)
        told = cheapest_truce(weights, clashes)
        kept = copy.deepcopy(told)
        self.assertEqual((weights, clashes), (WEIGHTS, CLASHES))
        told[2][2][0][2].clear()
        told[2][2].append(None)
        self.assertEqual(cheapest_truce(weights, clashes), kept)
        weights[2] = 0
        clashes.append(())
        self.assertEqual(cheapest_truce(WEIGHTS, CLASHES), kept)


class CostTree(unittest.TestCase):
    def refuses(self, thing, cost=4):
        self.assertIs(is_cost_tree(WEIGHTS, CLASHES, cost, thing), False)

    def lets_by(self, thing, cost=4):
        self.assertIs(is_cost_tree(WEIGHTS, CLASHES, cost, thing), True)

    def test_known_ones(self):
        self.lets_by(TREE)
        self.assertTrue(is_plain_cost_tree(WEIGHTS, CLASHES, 4, TREE))
        self.lets_by(("by", (2, 3), [DEAR, ("by", (1, 2), [DEAR])]))
        # With 2 shut the way over 3 has one tree less.
        self.refuses(("by", (2, 3), [DEAR, ("by", (1, 2), [DEAR, DEAR])]))
        self.refuses(("by", (2, 3), [DEAR, ("by", (1, 2), [])]))

    def test_dear_at_the_top(self):
        for cost in (0, -1, -10 ** 100):
            self.lets_by(DEAR, cost)
            self.lets_by(TREE, cost)
        self.refuses(DEAR, 1)
        self.assertIs(is_cost_tree({}, [], 0, DEAR), True)
        self.assertIs(is_cost_tree({}, [], 1, DEAR), False)

    def test_a_clash_without_members_bears_any_cost(self):
        for cost in (0, 5, 10 ** 100):
            self.assertIs(is_cost_tree({1: 1}, [(1,), ()], cost, ("by", (), [])), True)
            self.assertIs(is_cost_tree({1: 1}, [(1,)], cost, ("by", (), [])), False)
            self.assertIs(is_cost_tree({1: 1}, [(1,), ()], cost, ("by", (), [DEAR])), False)

    def test_all_members_shut(self):
        clashes = [(1, 2), (1,), (2, 3)]
        self.assertIs(is_cost_tree({1: 9, 2: 1, 3: 1}, clashes, 9, ("by", (1, 2), [DEAR, ("by", (1,), [])])), True)
        self.assertIs(is_cost_tree({1: 9, 2: 1, 3: 1}, clashes, 9, ("by", (1, 2), [DEAR, ("by", (1,), [DEAR])])), False)
        self.assertIs(is_cost_tree({1: 9, 2: 1, 3: 1}, clashes, 9, ("by", (1, 2), [DEAR, DEAR])), False)

    def test_members_shut_further_up_stay_shut(self):
        clashes = [(1, 2), (3, 4), (1, 5)]
        weights = {1: 9, 2: 1, 3: 1, 4: 1, 5: 7}
        tree = ("by", (1, 2), [DEAR, ("by", (3, 4), [("by", (1, 5), [DEAR]), ("by", (1, 5), [DEAR])])])
        self.assertIs(is_cost_tree(weights, clashes, 9, tree), True)
        for spot in [(1, 0), (1, 1)]:
            self.assertIs(is_cost_tree(weights, clashes, 9, with_tree(tree, spot, ("by", (1, 5), [DEAR, DEAR]))), False)

    def test_a_lesser_cost_and_one_more_than_the_least(self):
        for cost in (3, 2, 1):
            self.lets_by(TREE, cost)
        self.refuses(TREE, 5)
        self.lets_by(("by", (1, 2), [DEAR, DEAR]), 1)
        self.refuses(("by", (1, 2), [DEAR, DEAR]), 2)

    def test_no_tree_is_good_for_more_than_the_least(self):
        chance = random.Random(321)
        for _, family in families(34, 40, TEN[:6], 6):
            weights = {member: chance.randint(0, 5) for member in TEN}
            cost, _, tree = cheapest_truce(weights, family)
            for _ in range(20):
                other = put_otherwise(chance, family or [()], tree)
                self.assertIs(is_cost_tree(weights, family, cost + 1, other), False)

    def test_a_clash_that_is_not_in_the_list(self):
        for spot in [(), (0,)]:
            here = tree_at(TREE, spot)
            for clash in [(1, 3), (1,), (3,), (), (1, 2, 3), (9,), (1, 9), (2, 9)]:
                self.refuses(with_tree(TREE, spot, ("by", clash, here[2])))
                self.refuses(with_tree(TREE, spot, ("by", clash, [DEAR] * len(clash))))
        self.assertIs(is_cost_tree(WEIGHTS, CLASHES[:1], 4, TREE), False)
        self.assertIs(is_cost_tree(WEIGHTS, CLASHES[1:], 4, TREE), False)
        self.assertIs(is_cost_tree(WEIGHTS, [*CLASHES, (9,)][::-1], 4, TREE), True)

    def test_a_clash_of_which_a_member_is_taken(self):
        self.refuses(("by", (1, 2), [("by", (1, 2), [DEAR, DEAR]), DEAR]))
        self.refuses(("by", (1, 2), [TREE[2][0], ("by", (2, 3), [DEAR, DEAR])]))
        self.refuses(("by", (1, 2), [TREE[2][0], ("by", (1, 2), [])]))

    def test_a_tree_too_many_or_too_few_and_another_row(self):
        for spot in [(), (0,)]:
            word, clash, trees = tree_at(TREE, spot)
            for other in [trees[:1], trees[1:], [], trees + [DEAR], [DEAR] + trees]:
                self.refuses(with_tree(TREE, spot, (word, clash, other)))
        self.refuses(("by", (1, 2), TREE[2][::-1]))

    def test_a_tuple_for_the_list_and_lists_for_tuples(self):
        for spot in spots_of(TREE):
            here = tree_at(TREE, spot)
            self.refuses(with_tree(TREE, spot, list(here)))
            if here != DEAR:
                self.refuses(with_tree(TREE, spot, (here[0], here[1], tuple(here[2]))))
                self.refuses(with_tree(TREE, spot, (here[0], list(here[1]), here[2])))
                self.refuses(with_tree(TREE, spot, (here[0], here[1], dict(enumerate(here[2])))))
        self.assertIs(is_cost_tree({}, [()], 4, ("by", (), ())), False)

    def test_another_word(self):
        for spot in spots_of(TREE):
            here = tree_at(TREE, spot)
            for word in ["dear", "by", "Dear", "By", "", "dea", "dears", " by", "ask", None, 0, True, ("by",), b"by"]:
                if word != here[0]:
                    self.refuses(with_tree(TREE, spot, (word, *here[1:])))

    def test_a_part_more_or_less(self):
        for spot in spots_of(TREE):
            here = tree_at(TREE, spot)
            for thing in [here + (here[-1],), here + ([],), here + (None,), here[:-1], here[1:], (), here[:1] + here]:
                self.refuses(with_tree(TREE, spot, thing))

    def test_numbers_that_are_truths_and_sets_that_are_none(self):
        for clash in [(True, 2), (1.0, 2), (2, 1), (1, 1, 2), (1, 2, 2), "12", None, 12, {1: True, 2: True}, ((1, 2),)]:
            self.refuses(("by", clash, TREE[2]))
        self.assertIs(is_cost_tree({1: 1, 0: 1}, [(0, 1)], 1, ("by", (0, 1), [DEAR, DEAR])), True)
        self.assertIs(is_cost_tree({1: 1, 0: 1}, [(0, 1)], 1, ("by", (False, True), [DEAR, DEAR])), False)

    def test_other_kinds_at_the_top_and_inside(self):
        for thing in [*things_of_other_kinds(), "", "dea", (), ((),), nested_far()]:
            self.refuses(thing, -5)
            self.refuses((thing,), -5)
            self.refuses((thing, (1, 2), TREE[2]))
            for spot in spots_of(TREE):
                self.refuses(with_tree(TREE, spot, thing))
                here = tree_at(TREE, spot)
                if here != DEAR:
                    for other in [(thing, here[1], here[2]), ("by", thing, here[2]), ("by", (thing, 9), here[2]),
                                  ("by", (thing,), here[2]), ("by", here[1], [thing] * len(here[2]))]:
                        self.refuses(with_tree(TREE, spot, other))
                    self.refuses(with_tree(TREE, spot, ("by", here[1], thing)))

    def test_things_nested_very_deep(self):
        tree = DEAR
        for _ in range(100000):
            tree = ("by", (1, 2), [tree, tree])
        self.refuses(tree)
        knot = []
        knot.extend([("by", (1, 2), knot), ("by", (2, 3), knot)])
        self.refuses(("by", (1, 2), knot))
        self.refuses(("by", (2, 3), knot))
        self.refuses(knot)
        # Told of ten members, a knot of trees is walked as far as members can be taken.
        pairs = list(itertools.combinations(range(10), 2))
        knot = []
        knot.extend([("by", (8, 9), knot)] * 2)
        self.assertIs(is_cost_tree({member: 1 for member in range(10)}, pairs, 4, ("by", (0, 1), knot)), False)

    def test_put_otherwise_held_against_the_words(self):
        chance = random.Random(322)
        counts = {True: 0, False: 0}
        for _, family in families(35, 120, TEN[:7], 8):
            weights = {member: chance.randint(0, 5) for member in TEN}
            cost, _, tree = cheapest_truce(weights, family)
            for _ in range(15):
                other = put_otherwise(chance, family or [()], tree)
                good = is_plain_cost_tree(weights, family, cost, other)
                self.assertIs(is_cost_tree(weights, family, cost, other), good)
                counts[good] += 1
        self.assertGreater(min(counts.values()), 100)

    def test_what_is_handed_in_stays(self):
        weights, clashes, tree = copy.deepcopy((WEIGHTS, CLASHES, TREE))
        for _ in range(2):
            self.assertIs(is_cost_tree(weights, clashes, 4, tree), True)
        self.assertEqual((weights, clashes, tree), (WEIGHTS, CLASHES, TREE))


if __name__ == "__main__":
    unittest.main()
