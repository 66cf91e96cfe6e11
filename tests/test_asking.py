"""[22], [23]: a set is grown or shrunk with an asker."""

import random
import unittest

from helper import all_parts, asker_of, random_set
from truceroll.asking import grown, shrunk
from truceroll.errors import NoClash, NoPeace
from truceroll.sets import is_set

HUGE = 10 ** 101 - 1
TWELVE = [-HUGE, -10 ** 18, -3, -2, 0, 1, 2, 4, 50, 51, 10 ** 18, HUGE]


def grown_by_hand(whole, ask, part):
    taken = set(part)
    for member in sorted(set(whole) - set(part)):
        if ask(tuple(sorted(taken | {member}))):
            taken.add(member)
    return tuple(sorted(taken))


def shrunk_by_hand(ask, part):
    kept = set(part)
    for member in sorted(part):
        if not ask(tuple(sorted(kept - {member}))):
            kept.remove(member)
    return tuple(sorted(kept))


def askers(seed, many, members):
    """A whole and the clashes of an asker, with now and then none, or such that all clash."""
    chance = random.Random(seed)
    for turn in range(many):
        whole = random_set(chance, members, 0, turn % (len(members) + 1))
        clashes = [random_set(chance, list(whole), min(1 + turn % 3, len(whole))) for _ in range(chance.randint(0, 7))]
        yield whole, [()] if turn % 17 == 0 else clashes


class Asking(unittest.TestCase):
    def setUp(self):
        self.asked = []

    def check_asked(self, whole):
        self.assertGreater(len(self.asked), 0)
        for part in self.asked:
            self.assertIs(is_set(part), True)
            self.assertLessEqual(set(part), set(whole))
        self.asked.clear()

    def refused(self, wrong, part, *call):
        with self.assertRaises(wrong) as taken:
            call[0](*call[1:])
        self.assertIs(type(taken.exception), wrong)
        self.assertEqual(taken.exception.part, part)


class Grown(Asking):
    def test_known_ones(self):
        for whole, clashes, part, told in [
                ((), [], (), ()), ((1, 2, 3), [], (), (1, 2, 3)), ((1, 2, 3), [(1, 2)], (), (1, 3)),
                ((1, 2, 3), [(1, 2)], (2,), (2, 3)), ((1, 2, 3), [(1, 2)], (3,), (1, 3)), ((1, 2), [(1,)], (), (2,)),
                ((1, 2, 3), [(1,), (2,), (3,)], (), ()), ((-5, 0, HUGE), [(-5, HUGE)], (0,), (-5, 0)),
                ((-5, 0, HUGE), [(-5, HUGE)], (HUGE,), (0, HUGE)), ((1, 2, 3), [(1, 2, 3)], (1, 3), (1, 3))]:
            self.assertEqual(grown(whole, asker_of(clashes), part), told, (whole, clashes, part))

    def test_held_against_going_through_the_members_by_hand(self):
        chance = random.Random(23)
        told_more, refused = 0, 0
        for whole, clashes in askers(23, 400, TWELVE):
            ask = asker_of(clashes)
            part = random_set(chance, list(whole), 0, chance.randint(0, len(whole)))
            if ask(part):
                told = grown(whole, asker_of(clashes, self.asked), part)
                self.assertEqual(told, grown_by_hand(whole, ask, part))
                told_more += len(told) > len(part)
            else:
                self.refused(NoPeace, part, grown, whole, asker_of(clashes, self.asked), part)
                refused += 1
            self.check_asked(whole)
        self.assertGreater(min(told_more, refused), 60)

    def test_no_other_peaceful_part_holds_it(self):
        for whole, clashes in askers(24, 120, TWELVE[2:9]):
            ask = asker_of(clashes)
            for part in all_parts(whole)[::5]:
                if ask(part):
                    told = grown(whole, ask, part)
                    self.assertIs(is_set(told), True)
                    self.assertTrue(ask(told))
                    self.assertLessEqual(set(part), set(told))
                    self.assertFalse(any(ask(other) for other in all_parts(whole) if set(told) < set(other)))

    def test_an_asker_that_tells_true_of_everything(self):
        for many in range(13):
            whole = tuple(TWELVE[:many])
            for part in [(), whole, whole[1:], whole[::2]]:
                self.assertEqual(grown(whole, lambda part: True, part), whole)

    def test_an_asker_that_tells_false_of_everything(self):
        for many in range(13):
            whole = tuple(TWELVE[:many])
            for part in [(), whole, whole[::2]]:
                self.refused(NoPeace, part, grown, whole, lambda part: False, part)

    def test_a_part_that_clashes_is_refused_and_no_other(self):
        ask = asker_of([(2, 3)])
        for part in [(2, 3), (1, 2, 3)]:
            self.refused(NoPeace, part, grown, (1, 2, 3), ask, part)
        self.assertEqual(grown((1, 2, 3), ask, (1, 2)), (1, 2))
        self.assertEqual(grown((1, 2, 3), ask, (1, 3)), (1, 3))

    def test_what_is_handed_in_stays(self):
        whole, part = (1, 2, 3), (2,)
        grown(whole, asker_of([(1, 2)]), part)
        self.assertEqual((whole, part), ((1, 2, 3), (2,)))


class Shrunk(Asking):
    def test_known_ones(self):
        for clashes, part, told in [
                ([()], (), ()), ([()], (1, 2), ()), ([(1,)], (1, 2, 3), (1,)), ([(1, 2), (3,)], (1, 2, 3), (3,)),
                ([(1, 2), (2, 3)], (1, 2, 3), (2, 3)), ([(1, 2), (2, 3)], (1, 2), (1, 2)), ([(3, 4)], (3, 4), (3, 4)),
                ([(-HUGE, 0), (0, HUGE)], (-HUGE, 0, HUGE), (0, HUGE)), ([(1, 2), (3, 4)], (1, 2, 3, 4), (3, 4))]:
            self.assertEqual(shrunk(asker_of(clashes), part), told, (clashes, part))

    def test_held_against_going_through_the_members_by_hand(self):
        chance = random.Random(25)
        told_less, refused = 0, 0
        for whole, clashes in askers(26, 400, TWELVE):
            ask = asker_of(clashes)
            part = whole if chance.random() < 0.4 else random_set(chance, list(whole))
            if not ask(part):
                told = shrunk(asker_of(clashes, self.asked), part)
                self.assertEqual(told, shrunk_by_hand(ask, part))
                told_less += len(told) < len(part)
            else:
                self.refused(NoClash, part, shrunk, asker_of(clashes, self.asked), part)
                refused += 1
            # Parts of this set alone, not of the whole.
            self.check_asked(part)
        self.assertGreater(min(told_less, refused), 60)

    def test_no_other_part_of_it_clashes(self):
        for whole, clashes in askers(27, 120, TWELVE[2:9]):
            ask = asker_of(clashes)
            for part in all_parts(whole)[::3]:
                if not ask(part):
                    told = shrunk(ask, part)
                    self.assertIs(is_set(told), True)
                    self.assertFalse(ask(told))
                    self.assertLessEqual(set(told), set(part))
                    self.assertTrue(all(ask(other) for other in all_parts(told) if other != told))

    def test_an_asker_that_tells_false_of_everything(self):
        for many in range(13):
            self.assertEqual(shrunk(lambda part: False, tuple(TWELVE[:many])), ())

    def test_an_asker_that_tells_true_of_everything(self):
        for many in range(13):
            part = tuple(TWELVE[:many])
            self.refused(NoClash, part, shrunk, lambda part: True, part)

    def test_a_peaceful_set_is_refused_and_no_other(self):
        ask = asker_of([(2, 3)])
        for part in [(), (2,), (1, 2), (1, 3)]:
            self.refused(NoClash, part, shrunk, ask, part)
        self.assertEqual(shrunk(ask, (1, 2, 3)), (2, 3))

    def test_what_is_handed_in_stays(self):
        part = (1, 2, 3)
        shrunk(asker_of([(1, 2)]), part)
        self.assertEqual(part, (1, 2, 3))


class Both(unittest.TestCase):
    def test_two_like_askings_tell_the_same(self):
        one, other = asker_of([(1, 2), (3,)]), asker_of([(2, 4)])
        whole = (1, 2, 3, 4)
        for _ in range(3):
            self.assertEqual(grown(whole, one, ()), (1, 4))
            self.assertEqual(grown(whole, other, ()), (1, 2, 3))
            self.assertEqual(shrunk(one, whole), (3,))
            self.assertEqual(shrunk(other, whole), (2, 4))


if __name__ == "__main__":
    unittest.main()
