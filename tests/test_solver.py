"""[13], and [14] of told papers: the first facts under which rules hold, or a paper that there are none."""

import copy
import itertools
import random
import unittest

from helper import A, B, C, first_facts, nested, plain_names, random_rule, random_rules
from truceroll.shortest import shortest_of
from truceroll.solver import answer

TWELVE = list("abcdefghijkl")
YES, NO = ("yes",), ("no",)


def odd(names, truth):
    """Whether the number of those of the names that are True is odd, or even."""
    rule = ("is", names[0])
    for name in names[1:]:
        rule = ("same", rule, ("is", name))
    # A chain of "same" holds where the number of those that are False is even.
    return rule if truth == (len(names) % 2 == 1) else ("not", rule)


def any_of(literals):
    rules = [("is", name) if truth else ("not", ("is", name)) for name, truth in literals]
    while len(rules) > 1:
        rules = rules[2:] + [("or", rules[0], rules[1])]
    return rules[0]


class Solver(unittest.TestCase):
    def check_paper(self, rules, lines):
        """Each line is walked by the words of [14], without the program's own joining."""
        self.assertIsInstance(lines, list)
        self.assertGreaterEqual(len(lines), 1)
        shortest = [shortest_of(rule) for rule in rules]
        used = set()
        for number, line in enumerate(lines):
            self.assertIsInstance(line, tuple)
            for part in line:
                self.assertNotIsInstance(part, bool)
            if line[0] == "rule":
                word, k, clause = line
                self.assertIn(k, range(len(rules)))
                self.assertIn(clause, shortest[k])
            else:
                word, i, j, name, clause = line
                self.assertEqual(word, "join")
                self.assertIn(i, range(number))
                self.assertIn(j, range(number))
                self.assertIn((name, True), lines[i][-1])
                self.assertIn((name, False), lines[j][-1])
                rest = (set(lines[i][-1]) | set(lines[j][-1])) - {(name, True), (name, False)}
                self.assertEqual(len({literal[0] for literal in rest}), len(rest))
                self.assertEqual(clause, tuple(sorted(rest)))
                used |= {i, j}
        self.assertEqual(lines[-1][-1], ())
        self.assertEqual(used, set(range(len(lines) - 1)))

    def check(self, rules):
        told = answer(rules)
        self.assertIsInstance(told, tuple)
        facts = first_facts(rules)
        if facts is not None:
            self.assertEqual(told, ("peace", facts))
            self.assertTrue(all(isinstance(truth, bool) for truth in told[1].values()))
        else:
            self.assertEqual((told[0], len(told)), ("clash", 2))
            self.check_paper(rules, told[1])
        return told

    def test_no_rules(self):
        self.assertEqual(answer([]), ("peace", {}))

    def test_one_rule(self):
        self.assertEqual(answer([YES]), ("peace", {}))
        self.assertEqual(answer([A]), ("peace", {"a": True}))
        self.assertEqual(answer([("not", A)]), ("peace", {"a": False}))
        self.assertEqual(answer([("or", B, A)]), ("peace", {"a": False, "b": True}))
        self.assertEqual(answer([("and", A, B)]), ("peace", {"a": True, "b": True}))

    def test_one_rule_that_never_holds(self):
        for rule in [NO, ("and", A, ("not", A)), ("same", A, ("not", A)), ("not", ("or", B, ("not", B)))]:
            self.assertEqual(answer([rule]), ("clash", [("rule", 0, ())]))
            told = self.check([A, YES, rule, ("not", A)])
            self.assertEqual(told[0], "clash")

    def test_two_that_clash(self):
        told = self.check([A, ("not", A)])
        self.assertEqual(len(told[1]), 3)
        self.check([("not", A), A])
        self.check([("same", A, B), ("same", ("not", A), B)])
        self.check([A, ("then", A, B), ("then", B, C), ("not", C)])

    def test_names_that_do_not_matter_are_told(self):
        always = ("or", ("is", "z"), ("not", ("is", "z")))
        self.assertEqual(answer([always]), ("peace", {"z": False}))
        self.assertEqual(answer([always, A]), ("peace", {"a": True, "z": False}))
        self.assertEqual(answer([("and", NO, A), always])[0], "clash")

    def test_the_first_facts_by_the_names_sorted(self):
        self.assertEqual(answer([("or", ("is", "aa"), ("or", ("is", "a"), ("is", "b")))]),
                         ("peace", {"a": False, "aa": False, "b": True}))
        self.assertEqual(answer([("not", ("same", ("is", "b"), ("is", "aa")))]), ("peace", {"aa": False, "b": True}))

    def test_all_pairs_and_threes_of_small_rules(self):
        small = [YES, NO, A, B, ("not", A), ("or", A, B), ("then", A, B), ("same", A, C), ("not", ("same", A, C)),
                 ("and", B, ("not", C)), ("then", C, ("not", B))]
        for many in (1, 2, 3):
            for rules in itertools.product(small, repeat=many):
                self.check(list(rules))

    def test_many_heaps_of_rules(self):
        answers = {"peace": 0, "clash": 0}
        for seed in range(250):
            rules = random_rules(seed, seed % 9, TWELVE[:3 + seed % 6], 1 + seed % 6)
            answers[self.check(rules)[0]] += 1
        self.assertGreater(min(answers.values()), 40)

    def test_twelve_names_and_twenty_four_rules(self):
        chance = random.Random(13)
        answers = {"peace": 0, "clash": 0}
        for turn in range(16):
            rules = []
            for _ in range(24):
                row = chance.sample(TWELVE, 3)
                three = [any_of([(name, chance.random() < 0.5) for name in row]) for _ in range(3)]
                rules.append(("and", three[0], ("and", three[1], three[2])) if turn % 2 else three[0])
            self.assertEqual(len(set().union(*map(plain_names, rules))), 12)
            answers[self.check(rules)[0]] += 1
        self.assertGreater(min(answers.values()), 4)

    def test_odd_and_even_over_twelve_names(self):
        chance = random.Random(14)
        answers = {"peace": 0, "clash": 0}
        for turn in range(16):
            many = 10 + turn
            truths = {name: chance.random() < 0.5 for name in TWELVE}
            rows = [chance.sample(TWELVE, chance.randint(2, 5)) for _ in range(min(many, 24))]
            rules = [odd(row, sum(truths[name] for name in row) % 2 == 1) for row in rows]
            if turn % 2:
                rules[-1] = odd(rows[-1], sum(truths[name] for name in rows[-1]) % 2 == 0)
            answers[self.check(rules)[0]] += 1
        self.assertGreater(min(answers.values()), 4)

    def test_four_that_cannot_sit_on_three_chairs(self):
        seats = [[TWELVE[3 * who + chair] for chair in range(3)] for who in range(4)]
        rules = [any_of([(name, True) for name in row]) for row in seats]
        for chair in range(3):
            for one, other in itertools.combinations(range(4), 2):
                rules.append(any_of([(seats[one][chair], False), (seats[other][chair], False)]))
        self.assertEqual(self.check(rules)[0], "clash")
        self.assertEqual(self.check(rules[1:])[0], "peace")

    def test_told_twice_and_in_another_row(self):
        for seed in range(60):
            rules = random_rules(100 + seed, 5, TWELVE[:5], 4)
            told = answer(rules)
            self.assertEqual(answer(rules), told)
            for other in [rules + rules, rules[::-1], rules[2:] + rules[:2] + rules[3:]]:
                again = self.check(other)
                self.assertEqual(again[0], told[0])
                if told[0] == "peace":
                    self.assertEqual(again, told)

    def test_somewhat_beyond_the_bounds(self):
        chance = random.Random(15)
        names = [*TWELVE, "m"]
        peace = [any_of([(name, chance.random() < 0.5) for name in chance.sample(names, 6)]) for _ in range(25)]
        self.check([*peace, nested(8)])
        self.check([*peace, nested(8), ("not", nested(8))])

    def test_what_is_handed_in_stays(self):
        for rules in [[A, ("not", A)], [("or", A, B)], []]:
            kept = copy.deepcopy(rules)
            answer(rules)
            self.assertEqual(rules, kept)

    def test_what_is_told_is_the_askers_own(self):
        for rules in [[], [A], [("or", A, B), B], [A, ("not", A)], [NO]]:
            told = answer(rules)
            kept = copy.deepcopy(told)
            if told[0] == "peace":
                told[1]["z"] = True
                told[1].pop("a", None)
            else:
                told[1].append(("rule", 0, ()))
                told[1][0] = None
            self.assertEqual(answer(rules), kept)

    def test_rules_that_come_later_change_nothing_told(self):
        rules = [A]
        told = answer(rules)
        rules.append(("not", A))
        self.assertEqual(told, ("peace", {"a": True}))
        self.assertEqual(answer(rules)[0], "clash")

    def test_a_random_rule_and_its_opposite(self):
        chance = random.Random(16)
        for _ in range(60):
            rule = random_rule(chance, TWELVE[:5], 5)
            self.assertEqual(self.check([rule, ("not", rule)])[0], "clash")


if __name__ == "__main__":
    unittest.main()
