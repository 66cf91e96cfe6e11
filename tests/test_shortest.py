"""[12]: which clauses follow from a rule, and the shortest of them."""

import unittest

from helper import (A, B, C, all_of, clause_holds, clauses_over, nested, plain_facts, plain_follows, plain_names,
                    plain_shortest, plain_truth, random_rules)
from truceroll.clauses import clauses_in_order
from truceroll.shortest import follows, shortest_of

T, F = True, False
YES, NO = ("yes",), ("no",)
NOT_A = ("not", A)
EXCLUDED = ("or", A, NOT_A)


class Follows(unittest.TestCase):
    def test_clauses_that_follow_and_that_do_not(self):
        for rule, clause, told in [
                (A, (("a", T),), True), (A, (("a", F),), False), (A, (), False), (NOT_A, (("a", F),), True),
                (("or", A, B), (("a", T), ("b", T)), True), (("or", A, B), (("a", T),), False),
                (("and", A, B), (("a", T),), True), (("and", A, B), (("b", T),), True),
                (("then", A, B), (("a", F), ("b", T)), True), (("then", A, B), (("a", T), ("b", F)), False),
                (("same", A, B), (("a", T), ("b", F)), True), (("same", A, B), (("a", T), ("b", T)), False)]:
            self.assertIs(follows(rule, clause), told, (rule, clause))

    def test_names_that_the_rule_has_not(self):
        for rule, clause, told in [
                (A, (("a", T), ("z", T)), True), (A, (("b", T), ("z", F)), False), (A, (("z", T),), False),
                (YES, (("a", T),), False), (YES, (("a", F), ("b", T)), False), (NO, (("a", T), ("z", F)), True),
                (("or", A, B), (("a", T), ("c", T)), False), (("or", A, B), (("a", T), ("b", T), ("c", F)), True),
                (EXCLUDED, (("b", T),), False)]:
            self.assertIs(follows(rule, clause), told, (rule, clause))

    def test_the_one_without_literals(self):
        for rule, told in [(YES, False), (NO, True), (A, False), (("and", A, NOT_A), True), (EXCLUDED, False),
                           (("same", A, NOT_A), True)]:
            self.assertIs(follows(rule, ()), told)

    def test_held_against_a_look_over_all_facts(self):
        for rule in random_rules(8, 60, ["a", "b", "c", "d"], 5):
            for clause in clauses_over("abcz"):
                self.assertIs(follows(rule, clause), plain_follows(rule, clause), (rule, clause))

    def test_six_literals_and_eight_names(self):
        five = all_of("abcde", "or")
        clause = tuple((name, T) for name in "abcde")
        for more in [(("f", T),), (("f", F),)]:
            self.assertIs(follows(five, clause + more), True)
        self.assertIs(follows(five, clause[:-1] + (("f", T), ("g", T))), False)
        self.assertIs(follows(five, clause[2:] + (("f", T), ("g", F), ("h", T))), False)
        self.assertIs(follows(all_of("abcde"), clause[4:] + (("f", T), ("g", F), ("h", T))), True)

    def test_as_many_literals_as_there_are_names(self):
        clause = tuple((name, T) for name in "abcdefghijkl")
        self.assertIs(follows(all_of("abcde", "or"), clause), True)
        self.assertIs(follows(all_of("abcde", "or"), clause[1:]), False)


class Shortest(unittest.TestCase):
    def test_known_ones(self):
        for rule, told in [
                (YES, []), (NO, [()]), (EXCLUDED, []), (("and", A, NOT_A), [()]), (("same", A, NOT_A), [()]),
                (A, [(("a", T),)]), (NOT_A, [(("a", F),)]), (("or", A, B), [(("a", T), ("b", T))]),
                (("and", B, A), [(("a", T),), (("b", T),)]), (("then", A, B), [(("a", F), ("b", T))]),
                (("same", A, B), [(("a", F), ("b", T)), (("a", T), ("b", F))]),
                (("and", ("or", A, B), ("or", NOT_A, C)),
                 [(("a", F), ("c", T)), (("a", T), ("b", T)), (("b", T), ("c", T))])]:
            self.assertEqual(shortest_of(rule), told, rule)

    def test_held_against_a_look_over_all_clauses_and_all_facts(self):
        for rule in random_rules(9, 100, ["a", "b", "c", "d"]):
            self.assertEqual(shortest_of(rule), plain_shortest(rule, "abcd"), rule)

    def test_a_name_that_the_rule_has_not_stands_in_none(self):
        for rule in random_rules(17, 30, ["a", "b", "c"]):
            self.assertEqual(shortest_of(rule), plain_shortest(rule, "abcz"), rule)

    def test_five_names(self):
        for rule in random_rules(10, 15, ["a", "b", "c", "d", "aa"]) + [all_of("abcde", "same")]:
            self.assertEqual(shortest_of(rule), plain_shortest(rule, plain_names(rule)), rule)

    def test_the_rule_holds_just_where_all_of_them_do(self):
        for rule in random_rules(11, 200, ["a", "b", "c", "d", "e", "f"]):
            told = shortest_of(rule)
            self.assertEqual(told, clauses_in_order(told))
            for facts in plain_facts(plain_names(rule)):
                self.assertIs(plain_truth(rule, facts), all(clause_holds(clause, facts) for clause in told))

    def test_rules_that_mean_the_same_have_equal_lists(self):
        for rule in random_rules(12, 60, ["a", "b", "c", "d"], 4):
            for other in [("not", ("not", rule)), ("and", rule, ("yes",)), ("or", rule, ("and", ("is", "z"), ("no",))),
                          ("and", rule, ("or", ("is", "z"), ("not", ("is", "z")))), ("same", ("yes",), rule),
                          ("then", ("not", rule), rule)]:
                self.assertEqual(shortest_of(other), shortest_of(rule))

    def test_a_told_list_is_the_askers_own(self):
        for rule in [YES, NO, A, ("same", A, B)]:
            told = shortest_of(rule)
            kept = list(told)
            told.append((("z", T),))
            told.reverse()
            self.assertEqual(shortest_of(rule), kept)

    def test_somewhat_beyond_the_bounds(self):
        self.assertEqual(shortest_of(nested(8)), [(("a", F),)])
        self.assertEqual(shortest_of(all_of("abcdef", "or")), [tuple((name, T) for name in "abcdef")])
        self.assertEqual(len(shortest_of(all_of("abcdefg", "same"))), 64)


if __name__ == "__main__":
    unittest.main()
