"""[20], [21], and the fifth entry of [4]: which things are good trees, and a told tree or the first open set."""

import copy
import itertools
import random
import unittest

from helper import (all_parts, nested_far, plain_crossings, plain_greatest, random_set, strays_of,
                    things_of_other_kinds)
from truceroll.trees import is_tree, tree_of

HUGE = 10 ** 101 - 1

# Two of these three clash where 2 is among them.
WHOLE = (1, 2, 3)
CLASHES = [(1, 2), (2, 3)]
PEACES = [(2,), (1, 3)]
TREE = ("ask", 2, ("ask", 1, ("clash", (1, 2)), ("ask", 3, ("clash", (2, 3)), ("peace", (2,)))), ("peace", (1, 3)))


def leaves_of(tree, way=()):
    """Each leaf with the way to it: pairs of a member and whether it is held there."""
    if tree[0] != "ask":
        return [(way, tree)]
    return leaves_of(tree[2], way + ((tree[1], True),)) + leaves_of(tree[3], way + ((tree[1], False),))


def is_plain_tree(whole, clashes, peaces, tree):
    """By the words of [20], for things that are built of trees' tuples."""
    for way, (word, part) in leaves_of(tree):
        asked = [member for member, truth in way]
        if len(set(asked)) < len(asked) or not set(asked) <= set(whole):
            return False
        if word == "clash" and not (part in clashes and {(member, True) for member in part} <= set(way)):
            return False
        left_out = set(whole) - set(part)
        if word == "peace" and not (part in peaces and {(member, False) for member in left_out} <= set(way)):
            return False
    return True


def spots_of(tree, spot=()):
    """The way to each tree within the tree, by the numbers of its parts."""
    if tree[0] != "ask":
        return [spot]
    return [spot, *spots_of(tree[2], spot + (2,)), *spots_of(tree[3], spot + (3,))]


def tree_at(tree, spot):
    for number in spot:
        tree = tree[number]
    return tree


def with_tree(tree, spot, thing):
    if spot == ():
        return thing
    return tree[:spot[0]] + (with_tree(tree[spot[0]], spot[1:], thing),) + tree[spot[0] + 1:]


def put_otherwise(chance, whole, clashes, peaces, tree):
    spots = spots_of(tree)
    spot, other = chance.choice(spots), chance.choice(spots)
    here = tree_at(tree, spot)
    part = random_set(chance, list(whole))
    things = [tree_at(tree, other), ("clash", part), ("peace", part), ("clash", chance.choice([*clashes, part])),
              ("peace", chance.choice([*peaces, part])), ("ask", chance.choice([*whole, 99]), here, here)]
    if here[0] == "ask":
        things += [("ask", here[1], here[3], here[2]), here[2], here[3],
                   ("ask", chance.choice([*whole, 99]), here[2], here[3])]
    else:
        things += [("peace" if here[0] == "clash" else "clash", here[1])]
    return with_tree(tree, spot, chance.choice(things))


def cases(seed, many, members):
    """A whole, clashes and peaces: now both lists of an asker, now such with some left out or put in."""
    chance = random.Random(seed)
    for turn in range(many):
        whole = random_set(chance, members, 0, turn % (len(members) + 1))
        clashes = [random_set(chance, list(whole), min(1, len(whole))) for _ in range(chance.randint(0, 6))]
        peaceful = [part for part in all_parts(whole) if not any(set(clash) <= set(part) for clash in clashes)]
        peaces = plain_greatest(peaceful)
        if turn % 3 == 1:
            peaces = peaces[:-1]
            clashes = clashes[1:] if turn % 2 else clashes
        if turn % 3 == 2:
            clashes += [random_set(chance, list(whole)) for _ in range(2)]
            peaces += [random_set(chance, list(whole)) for _ in range(2)]
        clashes += clashes[:1]
        chance.shuffle(clashes)
        chance.shuffle(peaces)
        yield whole, clashes, peaces


class IsTree(unittest.TestCase):
    def lets_by(self, thing):
        self.assertIs(is_tree(WHOLE, CLASHES, PEACES, thing), True)

    def refuses(self, thing):
        self.assertIs(is_tree(WHOLE, CLASHES, PEACES, thing), False)

    def test_good_ones(self):
        self.lets_by(TREE)
        self.assertTrue(is_plain_tree(WHOLE, CLASHES, PEACES, TREE))
        # More may be asked than is needed.
        self.lets_by(with_tree(TREE, (3,), ("ask", 1, ("peace", (1, 3)), ("peace", (1, 3)))))
        self.lets_by(("ask", 1, ("ask", 2, ("clash", (1, 2)), ("peace", (1, 3))),
                      ("ask", 2, ("ask", 3, ("clash", (2, 3)), ("peace", (2,))), ("peace", (1, 3)))))

    def test_leaves_at_the_top(self):
        for whole, clashes, peaces, thing, told in [
                ((), [()], [], ("clash", ()), True), ((), [], [()], ("peace", ()), True),
                ((), [], [], ("clash", ()), False), ((), [], [], ("peace", ()), False),
                ((), [()], [], ("peace", ()), False), ((), [], [()], ("clash", ()), False),
                ((1, 2), [()], [], ("clash", ()), True), ((1, 2), [], [(1, 2)], ("peace", (1, 2)), True),
                ((1, 2), [], [(1,)], ("peace", (1,)), False), ((1, 2), [(1,)], [], ("clash", (1,)), False),
                ((1, 2), [(1, 2)], [()], ("clash", (1, 2)), False), ((1, 2), [(1, 2)], [()], ("peace", ()), False),
                ((-HUGE, HUGE), [], [(-HUGE, HUGE)], ("peace", (-HUGE, HUGE)), True)]:
            self.assertIs(is_tree(whole, clashes, peaces, thing), told, (whole, thing))

    def test_a_clash_that_is_a_part_of_a_peace(self):
        clashes, peaces = [(1,)], [(1, 2)]
        for thing in [("peace", (1, 2)), ("ask", 1, ("clash", (1,)), ("peace", (1, 2))),
                      ("ask", 1, ("peace", (1, 2)), ("peace", (1, 2)))]:
            self.assertIs(is_tree((1, 2), clashes, peaces, thing), True)
        self.assertIs(is_tree((1, 2), clashes, peaces, ("ask", 2, ("clash", (1,)), ("peace", (1, 2)))), False)

    def test_a_member_asked_about_twice(self):
        for spot in spots_of(TREE):
            for member in WHOLE:
                here = tree_at(TREE, spot)
                thing = with_tree(TREE, spot, ("ask", member, here, here))
                self.assertIs(is_tree(WHOLE, CLASHES, PEACES, thing), is_plain_tree(WHOLE, CLASHES, PEACES, thing))
        self.refuses(("ask", 2, ("ask", 2, TREE[2], TREE[2]), TREE[3]))
        self.refuses(("ask", 2, TREE[2], ("ask", 2, TREE[3], TREE[3])))
        self.refuses(("ask", 2, TREE[2], ("ask", 1, TREE[3], ("ask", 2, TREE[3], TREE[3]))))
        # On two ways down the same member may be asked about.
        self.lets_by(("ask", 2, TREE[2], ("ask", 1, TREE[3], ("ask", 3, TREE[3], TREE[3]))))

    def test_leaves_that_are_not_in_the_lists(self):
        self.assertIs(is_tree(WHOLE, CLASHES[:1], PEACES, TREE), False)
        self.assertIs(is_tree(WHOLE, CLASHES[1:], PEACES, TREE), False)
        self.assertIs(is_tree(WHOLE, CLASHES, PEACES[:1], TREE), False)
        self.assertIs(is_tree(WHOLE, CLASHES, PEACES[1:], TREE), False)
        self.assertIs(is_tree(WHOLE, PEACES, CLASHES, TREE), False)
        self.assertIs(is_tree(WHOLE, [*CLASHES, (1,)], [*PEACES, (3,)], TREE), True)
        self.refuses(with_tree(TREE, (2, 2), ("clash", (2,))))
        self.refuses(with_tree(TREE, (2, 2), ("clash", ())))
        self.refuses(with_tree(TREE, (3,), ("peace", (1, 2, 3))))

    def test_a_member_not_asked_about(self):
        self.refuses(("ask", 2, ("ask", 1, ("clash", (1, 2)), ("clash", (2, 3))), ("peace", (1, 3))))
        self.refuses(("ask", 2, ("ask", 1, ("clash", (1, 2)), ("peace", (2,))), ("peace", (1, 3))))
        self.refuses(("ask", 1, ("clash", (1, 2)), ("peace", (1, 3))))
        self.refuses(TREE[2])
        self.refuses(TREE[3])

    def test_held_and_not_held_exchanged(self):
        for spot in [(), (2,), (2, 3)]:
            here = tree_at(TREE, spot)
            self.refuses(with_tree(TREE, spot, ("ask", here[1], here[3], here[2])))

    def test_what_is_no_member_of_the_whole(self):
        for member in [0, 4, -1, 99, HUGE, -HUGE]:
            self.refuses(("ask", member, TREE, TREE))
            for spot in [(), (2,), (2, 3)]:
                here = tree_at(TREE, spot)
                self.refuses(with_tree(TREE, spot, ("ask", member, here[2], here[3])))
                self.refuses(with_tree(TREE, spot, ("ask", member, here, here)))

    def test_numbers_that_are_truths(self):
        for whole, clashes, peaces, good, other in [
                ((1,), [(1,)], [()], ("ask", 1, ("clash", (1,)), ("peace", ())),
                 ("ask", True, ("clash", (1,)), ("peace", ()))),
                ((1,), [(1,)], [()], ("ask", 1, ("clash", (1,)), ("peace", ())),
                 ("ask", 1, ("clash", (True,)), ("peace", ()))),
                ((0,), [(0,)], [()], ("ask", 0, ("clash", (0,)), ("peace", ())),
                 ("ask", False, ("clash", (0,)), ("peace", ()))),
                ((0, 1), [], [(0, 1)], ("peace", (0, 1)), ("peace", (False, 1))),
                ((0, 1), [], [(0, 1)], ("peace", (0, 1)), ("peace", (0, True)))]:
            self.assertEqual(good, other)
            self.assertIs(is_tree(whole, clashes, peaces, good), True)
            self.assertIs(is_tree(whole, clashes, peaces, other), False)

    def test_sets_that_are_none(self):
        for part in [(2, 1), (1, 1, 2), [1, 2], (1, 2, 2), (1.0, 2), ((1, 2),), None, 1, "12", {1: True, 2: True}]:
            self.refuses(with_tree(TREE, (2, 2), ("clash", part)))
        for part in [(3, 1), [1, 3], (1, 3, 3), (1, 3.0), None, ((1, 3),)]:
            self.refuses(with_tree(TREE, (3,), ("peace", part)))

    def test_a_part_more_or_less(self):
        for spot in spots_of(TREE):
            here = tree_at(TREE, spot)
            for thing in [here + (here[-1],), here + ((),), here + (None,), here[:-1], here[:1], here[1:], (),
                          (here[0],) + here, list(here), [here], (here,)]:
                self.refuses(with_tree(TREE, spot, thing))

    def test_other_words(self):
        for spot in spots_of(TREE):
            here = tree_at(TREE, spot)
            for word in ["ask", "clash", "peace", "open", "tree", "", "Ask", " ask", "asks", None, 0, ("ask",),
                         ["ask"]]:
                if word != here[0]:
                    self.refuses(with_tree(TREE, spot, (word,) + here[1:]))
        self.refuses(("tree", TREE))
        self.refuses(("open", ()))

    def test_other_kinds_at_the_top_and_inside(self):
        for thing in [*things_of_other_kinds(), "", "ask", "clash", (), (1,)]:
            self.refuses(thing)
            for spot in spots_of(TREE):
                here = tree_at(TREE, spot)
                self.refuses(with_tree(TREE, spot, thing))
                for number in range(len(here)):
                    same = isinstance(thing, str) and thing == here[number]
                    if not same and not (number == 1 and type(thing) is int):
                        self.refuses(with_tree(TREE, spot, here[:number] + (thing,) + here[number + 1:]))
            self.refuses(with_tree(TREE, (2, 2), ("clash", (thing, 2))) if type(thing) is not int else ())
            self.refuses(with_tree(TREE, (3,), ("peace", (1, 3, thing))) if type(thing) is not int else ())

    def test_nested_very_deep(self):
        far = nested_far()
        deep, fork, both = TREE, TREE, TREE
        for _ in range(50000):
            deep = ("ask", 1, deep, ("peace", (1, 3)))
            fork = ("ask", 2, fork, fork)
        for number in range(50000):
            both = ("ask", WHOLE[number % 3], both, both)
        for thing in [far, deep, fork, both, ("clash", far), ("peace", far), ("ask", far, TREE, TREE),
                      ("ask", 2, TREE[2], far), ("ask", 2, far, TREE[3]), ("clash", (far,)), (far, (1, 2))]:
            self.refuses(thing)
        knot = []
        knot.append(("ask", 1, knot, knot))
        self.refuses(knot)
        self.refuses(knot[0])

    def test_ten_members_asked_about_on_all_ways(self):
        whole = tuple(range(-5, 5))
        tree = ("peace", whole)
        for member in whole:
            tree = ("ask", member, tree, tree)
        self.assertIs(is_tree(whole, [], [whole], tree), True)
        self.assertIs(is_tree(whole, [], [whole], ("ask", 0, tree, tree)), False)
        self.assertIs(is_tree(whole, [], [whole[1:]], tree), False)
        last = (2,) * 10
        self.assertIs(is_tree(whole, [whole], [whole], with_tree(tree, last, ("clash", whole))), True)
        self.assertIs(is_tree(whole, [whole], [whole], with_tree(tree, last[1:] + (3,), ("clash", whole))), False)

    def test_put_otherwise_held_against_the_words(self):
        chance = random.Random(20)
        counts = {True: 0, False: 0}
        for whole, clashes, peaces in cases(20, 120, [-HUGE, -2, 0, 1, 5, HUGE]):
            told = tree_of(whole, clashes, peaces)
            if told[0] == "tree":
                for _ in range(30):
                    thing = put_otherwise(chance, whole, clashes, peaces, told[1])
                    good = is_plain_tree(whole, clashes, peaces, thing)
                    self.assertIs(is_tree(whole, clashes, peaces, thing), good)
                    counts[good] += 1
                    if good:
                        for part in all_parts(whole):
                            self.assertTrue(any(set(clash) <= set(part) for clash in clashes)
                                            or any(set(part) <= set(peace) for peace in peaces))
        self.assertGreater(min(counts.values()), 200)

    def test_no_tree_where_a_set_is_open(self):
        chance = random.Random(21)
        tried = 0
        for whole, clashes, peaces in cases(22, 300, [1, 2, 3, 4, 5]):
            told = tree_of(whole, clashes, peaces)
            if told[0] == "tree":
                for fewer, less in [(clashes[1:], peaces), (clashes, peaces[1:])]:
                    if tree_of(whole, fewer, less)[0] == "open":
                        self.assertIs(is_tree(whole, fewer, less, told[1]), False)
                        for _ in range(10):
                            thing = put_otherwise(chance, whole, clashes, peaces, told[1])
                            self.assertIs(is_tree(whole, fewer, less, thing), False)
                        tried += 1
        self.assertGreater(tried, 30)

    def test_what_is_handed_in_stays(self):
        clashes, peaces = [(2, 3), (1, 2), (2, 3)], [(1, 3), (2,)]
        kept = copy.deepcopy((clashes, peaces))
        for thing in [TREE, TREE[2]]:
            first = is_tree(WHOLE, clashes, peaces, thing)
            self.assertEqual((clashes, peaces), kept)
            self.assertIs(is_tree(WHOLE, clashes, peaces, thing), first)


class TreeOf(unittest.TestCase):
    def check(self, whole, clashes, peaces):
        kept = copy.deepcopy((clashes, peaces))
        told = tree_of(whole, clashes, peaces)
        self.assertEqual((clashes, peaces), kept)
        self.assertEqual((type(told), len(told)), (tuple, 2))
        left = [part for part in all_parts(whole) if not any(set(clash) <= set(part) for clash in clashes)
                and not any(set(part) <= set(peace) for peace in peaces)]
        if left:
            self.assertEqual(told, ("open", left[0]))
            return "open"
        self.assertEqual(told[0], "tree")
        self.assertIs(is_tree(whole, clashes, peaces, told[1]), True)
        self.assertTrue(is_plain_tree(whole, clashes, peaces, told[1]))
        self.assertEqual(strays_of(whole, clashes, peaces, told[1]), [])
        return "tree"

    def test_no_clashes_and_no_peaces(self):
        for whole in [(), (1,), (-HUGE, 0, HUGE), tuple(range(10))]:
            self.assertEqual(tree_of(whole, [], []), ("open", ()))

    def test_the_whole_of_no_members(self):
        self.assertEqual(tree_of((), [()], []), ("tree", ("clash", ())))
        self.assertEqual(tree_of((), [], [()]), ("tree", ("peace", ())))
        self.assertEqual(self.check((), [()], [()]), "tree")

    def test_one_list_alone(self):
        self.assertEqual(self.check((1, 2), [()], []), "tree")
        self.assertEqual(self.check((1, 2), [], [(1, 2)]), "tree")
        self.assertEqual(tree_of((1, 2), [(1,), (2,)], []), ("open", ()))
        self.assertEqual(tree_of((1, 2), [], [(1,), (2,)]), ("open", (1, 2)))
        self.assertEqual(tree_of((1, 2, 3), [], [(1, 2), (3,)]), ("open", (1, 3)))

    def test_the_first_open_one_in_order(self):
        whole = (1, 2, 3, 4)
        for clashes, peaces, right in [
                (CLASHES, PEACES, (4,)), ([(4,), (1, 2)], [(1, 3)], (2,)), ([(4,), (2, 3)], [(1, 3)], (2,)),
                ([(2,), (3, 4)], [(3,), (1,)], (4,)), ([(1, 2), (3, 4)], [(1, 3), (2, 4)], (1, 4)),
                ([(1, 2), (3, 4), (1, 4)], [(1, 3), (2, 4)], (2, 3)), ([(1, 2, 3, 4)], [(1, 2, 4)], (3,)),
                ([(1, 2, 3, 4)], [(1, 2, 3), (1, 2, 4), (1, 3, 4)], (2, 3, 4))]:
            self.assertEqual(tree_of(whole, clashes, peaces), ("open", right))

    def test_clashes_that_are_parts_of_peaces(self):
        self.assertEqual(self.check((1, 2), [(1,)], [(1, 2)]), "tree")
        self.assertEqual(self.check((1, 2, 3), [(1,), (2, 3), ()], [(1, 2), (3,), ()]), "tree")
        self.assertEqual(self.check((1, 2, 3), [(1,)], [(1, 2), (1, 3)]), "open")

    def test_all_lists_over_two_members(self):
        lists = [list(family) for family in all_parts_of_list(all_parts((1, 2)))]
        told = [self.check((1, 2), clashes, peaces) for clashes in lists for peaces in lists]
        self.assertEqual(len(told), 256)

    def test_many(self):
        told = [self.check(*case) for case in cases(21, 300, [-HUGE, -7, -1, 0, 3, 10 ** 18, HUGE])]
        self.assertGreater(min(told.count("open"), told.count("tree")), 60)

    def test_ten_members(self):
        whole = tuple(range(-4, 6))
        for many in range(11):
            peaces = list(itertools.combinations(whole, many))
            clashes = list(itertools.combinations(whole, many + 1))
            self.assertEqual(self.check(whole, clashes, peaces), "tree")
            self.assertEqual(self.check(whole, clashes, peaces[:-1]), "open")
            if clashes:
                self.assertEqual(tree_of(whole, clashes[:-1], peaces), ("open", clashes[-1]))
        chance = random.Random(23)
        for turn in range(8):
            clashes = [random_set(chance, list(whole), 2, 5) for _ in range(4 + turn)]
            peaces = [tuple(sorted(set(whole) - set(part))) for part in plain_crossings(clashes)]
            self.assertEqual(self.check(whole, clashes, peaces), "tree")
            self.assertEqual(self.check(whole, clashes, peaces[1:]), "open")

    def test_told_twice_and_in_between_changed(self):
        for whole, clashes, peaces in cases(24, 40, [1, 2, 3, 4, 5]):
            told = tree_of(whole, clashes, peaces)
            kept = copy.deepcopy(told)
            self.assertEqual(tree_of(whole, list(clashes), list(peaces)), told)
            clashes.clear()
            peaces.append(whole)
            self.assertEqual(told, kept)


def all_parts_of_list(things):
    return [part for many in range(len(things) + 1) for part in itertools.combinations(things, many)]


if __name__ == "__main__":
    unittest.main()
