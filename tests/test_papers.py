"""[14], [15], and [4] as far as papers go: what is a paper for some rules, and which rules it leans on."""

import copy
import random
import unittest

from helper import (A, B, C, Touchy, all_of, first_facts, is_formed, is_plain_paper, lines_put_otherwise, nested_far,
                    random_rules, things_of_other_kinds, with_line, with_part)
from truceroll.papers import is_paper, leaned_on
from truceroll.sets import is_set
from truceroll.solver import answer

T, F = True, False
YES, NO = ("yes",), ("no",)
NOT_A, NOT_B, NOT_C = ("not", A), ("not", B), ("not", C)

CHAIN = [A, ("then", A, B), ("then", B, C), NOT_C]
CHAIN_PAPER = [("rule", 0, (("a", T),)), ("rule", 1, (("a", F), ("b", T))), ("join", 0, 1, "a", (("b", T),)),
               ("rule", 2, (("b", F), ("c", T))), ("join", 2, 3, "b", (("c", T),)), ("rule", 3, (("c", F),)),
               ("join", 4, 5, "c", ())]


def clashing(seeds, many, names, depth):
    """Heaps of rules that can't hold together, each with its told paper."""
    for seed in seeds:
        rules = random_rules(seed, many, names, depth)
        told = answer(rules)
        if told[0] == "clash":
            yield rules, told[1]


class IsPaper(unittest.TestCase):
    def refuses(self, rules, thing):
        self.assertIs(is_paper(rules, thing), False)

    def test_known_ones(self):
        for rules, lines in [
                (CHAIN, CHAIN_PAPER), ([NO], [("rule", 0, ())]), ([A, YES, ("and", B, NOT_B)], [("rule", 2, ())]),
                ([A, NOT_A], [("rule", 0, (("a", T),)), ("rule", 1, (("a", F),)), ("join", 0, 1, "a", ())]),
                ([NOT_A, A], [("rule", 0, (("a", F),)), ("rule", 1, (("a", T),)), ("join", 1, 0, "a", ())])]:
            self.assertIs(is_paper(rules, lines), True)
            self.assertTrue(is_plain_paper(rules, lines))

    def test_what_answer_tells_is_let_by(self):
        many = 0
        for rules, lines in clashing(range(120), 9, list("abcdef"), 3):
            self.assertIs(is_paper(rules, lines), True)
            many += 1
        self.assertGreater(many, 40)

    def test_a_told_paper_of_many_lines(self):
        chance = random.Random(1)
        rules = []
        for _ in range(24):
            row = chance.sample("abcdefghijkl", 5)
            rules.append(("same", all_of(row[:2], "same"), all_of(row[2:], "same")))
        rules.append(("not", rules[0]))
        told = answer(rules)
        self.assertEqual(told[0], "clash")
        self.assertIs(is_paper(rules, told[1]), True)
        self.refuses(rules[:-1], told[1])

    def test_idle_lines_are_let_by(self):
        for rules, lines in [(CHAIN, CHAIN_PAPER), *clashing(range(200, 230), 7, list("abcd"), 3)]:
            idle = [line for line in lines if line[0] == "rule"]
            longer = lines
            for number, line in enumerate(idle):
                longer = with_line(longer, number * 2 % len(lines), line)
                self.assertTrue(is_plain_paper(rules, longer))
                self.assertIs(is_paper(rules, longer), True)
        more = [*CHAIN, B]
        self.assertIs(is_paper(more, with_line(CHAIN_PAPER, 0, ("rule", 4, (("b", T),)))), True)
        twice = with_line(with_line(CHAIN_PAPER, 3, CHAIN_PAPER[2]), 6, CHAIN_PAPER[0])
        self.assertIs(is_paper(CHAIN, twice), True)
        self.assertIs(is_paper(CHAIN, CHAIN_PAPER + CHAIN_PAPER), True)

    def test_behind_an_idle_line_the_last_clause_is_another(self):
        self.refuses(CHAIN, CHAIN_PAPER + CHAIN_PAPER[:1])
        self.assertIs(is_paper(CHAIN, CHAIN_PAPER + [CHAIN_PAPER[0], CHAIN_PAPER[6]]), True)

    def test_put_otherwise_held_against_the_words(self):
        chance = random.Random(14)
        counts = {True: 0, False: 0}
        for rules, lines in [(CHAIN, CHAIN_PAPER), *clashing(range(300, 360), 6, list("abcd"), 3)]:
            for _ in range(40):
                other = lines_put_otherwise(chance, lines)
                if chance.random() < 0.3 and is_formed(other):
                    other = lines_put_otherwise(chance, other)
                good = is_plain_paper(rules, other)
                self.assertIs(is_paper(rules, other), good, (rules, other))
                counts[good] += 1
                if good:
                    self.assertIsNone(first_facts(rules))
        self.assertGreater(counts[True], 50)
        self.assertGreater(counts[False], 500)

    def test_no_paper_for_rules_that_can_hold_together(self):
        chance = random.Random(4)
        tried = 0
        for rules, lines in clashing(range(400, 440), 6, list("abcd"), 3):
            for number in range(len(rules)):
                weaker = rules[:number] + [("or", rules[number], chance.choice([A, B, YES]))] + rules[number + 1:]
                if first_facts(weaker) is not None:
                    self.refuses(weaker, lines)
                    for _ in range(10):
                        self.refuses(weaker, lines_put_otherwise(chance, lines))
                    tried += 1
        self.assertGreater(tried, 20)

    def test_the_word_put_otherwise(self):
        for place in range(len(CHAIN_PAPER)):
            for word in ["rule", "join", "Rule", "rul", "rules", "", " rule", "is", None, 0, ("rule",)]:
                if word != CHAIN_PAPER[place][0]:
                    self.refuses(CHAIN, with_part(CHAIN_PAPER, place, 0, word))

    def test_a_number_that_is_a_truth(self):
        two = [A, NOT_A]
        lines = answer(two)[1]
        self.assertEqual([line[1] for line in lines], [0, 1, 0])
        for place, number, truth in [(0, 1, F), (1, 1, T), (2, 1, F), (2, 2, T)]:
            self.assertEqual(with_part(lines, place, number, truth), lines)
            self.refuses(two, with_part(lines, place, number, truth))

    def test_a_truth_that_is_a_number(self):
        two = [A, NOT_A]
        lines = answer(two)[1]
        for place, clause in [(0, (("a", 1),)), (1, (("a", 0),))]:
            self.assertEqual(with_part(lines, place, 2, clause), lines)
            self.refuses(two, with_part(lines, place, 2, clause))

    def test_numbers_out_of_bounds(self):
        for number in [-1, -4, 7, 8, 10 ** 100, -10 ** 100]:
            for place in range(len(CHAIN_PAPER)):
                self.refuses(CHAIN, with_part(CHAIN_PAPER, place, 1, number))
        for place in (0, 1, 3, 5):
            self.refuses(CHAIN, with_part(CHAIN_PAPER, place, 1, 4))
        # From the end these would be the right lines.
        self.refuses(CHAIN, with_part(with_part(CHAIN_PAPER, 6, 1, -3), 6, 2, -2))
        self.refuses([A, NOT_A], [("rule", -2, (("a", T),)), ("rule", -1, (("a", F),)), ("join", 0, 1, "a", ())])

    def test_numbers_not_ahead_of_their_line(self):
        two = [A, NOT_A]
        self.refuses(two, [("join", 1, 2, "a", ()), ("rule", 0, (("a", T),)), ("rule", 1, (("a", F),)),
                           ("join", 1, 2, "a", ())])
        self.refuses(two, [("rule", 0, (("a", T),)), ("join", 0, 2, "a", ()), ("rule", 1, (("a", F),))])
        # A line that is joined of itself.
        never = [("or", A, B), ("or", A, NOT_B)]
        self.refuses(never, [("rule", 0, (("a", T), ("b", T))), ("join", 0, 1, "b", (("a", T), ("b", F)))])
        self.refuses(never, [("join", 0, 0, "a", ())])
        for number in range(6, 9):
            self.refuses(CHAIN, with_part(CHAIN_PAPER, 6, 1, number))
            self.refuses(CHAIN, with_part(CHAIN_PAPER, 6, 2, number))

    def test_the_two_lines_of_a_join_the_other_way_round(self):
        for place in (2, 4, 6):
            line = CHAIN_PAPER[place]
            turned = with_part(with_part(CHAIN_PAPER, place, 1, line[2]), place, 2, line[1])
            self.refuses(CHAIN, turned)

    def test_the_name_put_otherwise(self):
        for place in (2, 4, 6):
            for name in ["a", "b", "c", "d", "", "A", "aa", "abcdefghi", None, 0, T, ("a",), ["a"]]:
                if name != CHAIN_PAPER[place][3]:
                    self.refuses(CHAIN, with_part(CHAIN_PAPER, place, 3, name))

    def test_the_clause_put_otherwise(self):
        clauses = [(), (("a", T),), (("a", F),), (("b", T),), (("c", F),), (("b", T), ("a", F)), (("a", F), ("b", T)),
                   (("b", F), ("c", T)), (("c", T),), (("a", T), ("a", T)), None, [], [("a", T)], "", "a", ("a", T),
                   ((),), (["a", T],), (("a", None),), (("A", T),)]
        for place in range(len(CHAIN_PAPER)):
            last = len(CHAIN_PAPER[place]) - 1
            for clause in clauses:
                if clause != CHAIN_PAPER[place][last]:
                    self.refuses(CHAIN, with_part(CHAIN_PAPER, place, last, clause))

    def test_a_clause_that_follows_but_is_none_of_the_shortest(self):
        two = [("and", A, B), NOT_A]
        good = [("rule", 0, (("a", T),)), ("rule", 1, (("a", F),)), ("join", 0, 1, "a", ())]
        self.assertIs(is_paper(two, good), True)
        longer = [("rule", 0, (("a", T), ("b", T))), ("rule", 1, (("a", F),)), ("join", 0, 1, "a", (("b", T),)),
                  *good[:2], ("join", 3, 4, "a", ())]
        self.refuses(two, longer)
        self.refuses([NO, A], [("rule", 0, (("a", T),)), ("rule", 0, (("a", F),)), ("join", 0, 1, "a", ())])
        # What follows from two rules together is a clause of neither.
        self.refuses([("or", A, B), NOT_B, NOT_A], [("rule", 0, (("a", T),)), ("rule", 2, (("a", F),)),
                                                    ("join", 0, 1, "a", ())])

    def test_a_clause_of_another_rule(self):
        for place, number in [(0, 1), (0, 3), (1, 0), (3, 1), (5, 0)]:
            self.refuses(CHAIN, with_part(CHAIN_PAPER, place, 1, number))

    def test_a_join_that_comes_to_no_clause(self):
        rules = [("or", A, B), ("or", NOT_A, NOT_B), NO]
        lines = [("rule", 0, (("a", T), ("b", T))), ("rule", 1, (("a", F), ("b", F)))]
        for clause in [None, (), (("b", T),), (("b", F),), (("b", F), ("b", T))]:
            self.refuses(rules, lines + [("join", 0, 1, "a", clause), ("rule", 2, ())])
        self.assertIs(is_paper(rules, lines + [("rule", 2, ())]), True)

    def test_a_part_more_or_less(self):
        for place, line in enumerate(CHAIN_PAPER):
            for other in [line + ((),), line + (None,), line + (line[-1],), line[:-1], line[:1], (), line[1:],
                          (line[0],) + line, line[:2] + line[1:]]:
                self.refuses(CHAIN, CHAIN_PAPER[:place] + [other] + CHAIN_PAPER[place + 1:])

    def test_a_line_left_out_or_exchanged_with_its_neighbour(self):
        for place in range(len(CHAIN_PAPER)):
            self.refuses(CHAIN, CHAIN_PAPER[:place] + CHAIN_PAPER[place + 1:])
        for place in range(len(CHAIN_PAPER) - 1):
            turned = CHAIN_PAPER[:place] + CHAIN_PAPER[place:place + 2][::-1] + CHAIN_PAPER[place + 2:]
            self.refuses(CHAIN, turned)

    def test_a_line_told_twice(self):
        for place, line in enumerate(CHAIN_PAPER):
            # The numbers behind it aren't put right: only where nothing stands behind it this is a paper.
            twice = CHAIN_PAPER[:place] + [line] + CHAIN_PAPER[place:]
            self.assertIs(is_paper(CHAIN, twice), is_plain_paper(CHAIN, twice))
            self.assertIs(is_paper(CHAIN, with_line(CHAIN_PAPER, place, line)), True)

    def test_the_last_clause_must_be_the_one_without_literals(self):
        for many in range(len(CHAIN_PAPER)):
            self.refuses(CHAIN, CHAIN_PAPER[:many])
        self.refuses([NO, A], [("rule", 0, ()), ("rule", 1, (("a", T),))])

    def test_no_lines(self):
        for rules in [[], [A], [NO], CHAIN]:
            self.refuses(rules, [])

    def test_no_rules(self):
        self.refuses([], [("rule", 0, ())])
        self.refuses([], [("join", 0, 0, "a", ())])
        self.refuses([], CHAIN_PAPER)

    def test_a_tuple_in_the_place_of_the_list_and_lists_in_that_of_tuples(self):
        self.refuses(CHAIN, tuple(CHAIN_PAPER))
        self.refuses([NO], (("rule", 0, ()),))
        self.refuses([NO], [["rule", 0, ()]])
        self.refuses([NO], [("rule", 0, [])])
        self.refuses(CHAIN, [list(line) for line in CHAIN_PAPER])
        for place, line in enumerate(CHAIN_PAPER):
            self.refuses(CHAIN, CHAIN_PAPER[:place] + [list(line)] + CHAIN_PAPER[place + 1:])
            if len(line[-1]) > 0:
                for clause in [list(line[-1]), tuple(list(literal) for literal in line[-1])]:
                    self.refuses(CHAIN, with_part(CHAIN_PAPER, place, len(line) - 1, clause))

    def test_other_kinds_at_the_top_and_inside(self):
        for thing in [*things_of_other_kinds(), "", "rule", "join", (), ("rule", 0, ())]:
            self.refuses([NO], thing)
            self.refuses(CHAIN, thing)
        for thing in [*things_of_other_kinds(), "", "rule", "join", ()]:
            for place, line in enumerate(CHAIN_PAPER):
                self.refuses(CHAIN, CHAIN_PAPER[:place] + [thing] + CHAIN_PAPER[place + 1:])
                self.refuses(CHAIN, CHAIN_PAPER[:place] + [thing] + CHAIN_PAPER[place:])
                for number in range(len(line)):
                    number_there = number in (1, 2) and type(thing) is int
                    same = not isinstance(thing, Touchy) and thing == line[number]
                    if not number_there and (not same or isinstance(thing, bool)):
                        self.refuses(CHAIN, with_part(CHAIN_PAPER, place, number, thing))
                for clause in [(thing,), ((thing, T),), (line[-1] + (thing,)), (("a", thing, thing),)]:
                    self.refuses(CHAIN, with_part(CHAIN_PAPER, place, len(line) - 1, clause))

    def test_nested_far(self):
        far = nested_far()
        for thing in [far, [far], [("rule", 0, far)], [("rule", far, ())], [(far, 0, ())], [("rule", 0, (far,))],
                      [("rule", 0, ((far, T),))], [("rule", 0, (("a", far),))]]:
            self.refuses([NO], thing)
        for place, line in enumerate(CHAIN_PAPER):
            for number in range(len(line)):
                self.refuses(CHAIN, with_part(CHAIN_PAPER, place, number, far))
        knot = []
        knot.append(knot)
        knot.append(("rule", 0, knot))
        self.refuses([NO], knot)

    def test_clauses_of_more_literals_than_six(self):
        rules = [all_of("abcd", "or"), ("then", A, all_of("efgh", "or"))]
        rules += [("not", ("is", name)) for name in "bcdefgh"]
        self.assertIsNone(first_facts(rules))
        clause = tuple((name, T) for name in "bcdefgh")
        lines = [("rule", 0, tuple((name, T) for name in "abcd")), ("rule", 1, (("a", F),) + clause[3:]),
                 ("join", 0, 1, "a", clause)]
        for number, name in enumerate("bcdefgh"):
            lines.append(("rule", number + 2, ((name, F),)))
            clause = clause[1:]
            lines.append(("join", len(lines) - 2, len(lines) - 1, name, clause))
        self.assertEqual(len(lines[2][-1]), 7)
        self.assertIs(is_paper(rules, lines), True)
        self.assertEqual(leaned_on(lines), tuple(range(9)))
        for other in [lines[2][-1][1:], lines[2][-1] + (("i", T),), lines[2][-1][:-1] + (("h", F),)]:
            self.refuses(rules, with_part(lines, 2, 4, other))

    def test_the_same_paper_for_rules_in_another_row(self):
        self.refuses(CHAIN[::-1], CHAIN_PAPER)
        self.refuses(CHAIN[1:] + CHAIN[:1], CHAIN_PAPER)
        turned = [(line[0], 3 - line[1], line[2]) if line[0] == "rule" else line for line in CHAIN_PAPER]
        self.assertIs(is_paper(CHAIN[::-1], turned), True)
        self.refuses(CHAIN, turned)
        # More rules behind change nothing, more ahead do.
        self.assertIs(is_paper([*CHAIN, B, NO], CHAIN_PAPER), True)
        self.refuses([YES, *CHAIN], CHAIN_PAPER)

    def test_rules_that_hold_under_the_same_facts(self):
        other = [("not", NOT_A), ("or", NOT_A, B), ("not", ("and", B, NOT_C)), ("same", C, NO)]
        self.assertIs(is_paper(other, CHAIN_PAPER), True)

    def test_what_is_handed_in_stays(self):
        for rules, thing in [(CHAIN, CHAIN_PAPER), (CHAIN, CHAIN_PAPER[1:]), ([A, NO], [("rule", 1, ())])]:
            kept = copy.deepcopy((rules, thing))
            first = is_paper(rules, thing)
            self.assertEqual((rules, thing), kept)
            self.assertIs(is_paper(rules, thing), first)

    def test_what_is_changed_behind_the_call_is_looked_at_anew(self):
        rules, lines = list(CHAIN), list(CHAIN_PAPER)
        self.assertIs(is_paper(rules, lines), True)
        rules[0] = B
        self.refuses(rules, lines)
        rules[0] = A
        self.assertIs(is_paper(rules, lines), True)
        lines.pop()
        self.refuses(rules, lines)


class LeanedOn(unittest.TestCase):
    def test_known_ones(self):
        self.assertEqual(leaned_on([("rule", 0, ())]), (0,))
        self.assertEqual(leaned_on([("rule", 7, ())]), (7,))
        self.assertEqual(leaned_on(CHAIN_PAPER), (0, 1, 2, 3))
        self.assertEqual(leaned_on([("rule", 5, (("a", T),)), ("rule", 2, (("a", F),)), ("join", 0, 1, "a", ())]),
                         (2, 5))

    def test_idle_lines_are_not_leaned_on(self):
        for place in range(len(CHAIN_PAPER)):
            self.assertEqual(leaned_on(with_line(CHAIN_PAPER, place, ("rule", 4, (("b", T),)))), (0, 1, 2, 3))
        idle = [("rule", 4, (("b", T),)), ("rule", 5, (("b", F),)), ("join", 0, 1, "b", ()), ("rule", 6, ())]
        self.assertIs(is_paper([A, A, A, A, B, NOT_B, NO], idle), True)
        self.assertEqual(leaned_on(idle), (6,))
        self.assertEqual(leaned_on(CHAIN_PAPER + [("rule", 9, ())]), (9,))

    def test_a_rule_leaned_on_by_several_lines_stands_there_once(self):
        both = [("and", A, B), ("or", NOT_A, NOT_B)]
        lines = [("rule", 0, (("a", T),)), ("rule", 1, (("a", F), ("b", F))), ("join", 0, 1, "a", (("b", F),)),
                 ("rule", 0, (("b", T),)), ("join", 3, 2, "b", ())]
        self.assertIs(is_paper(both, lines), True)
        self.assertEqual(leaned_on(lines), (0, 1))
        never = [("same", ("and", A, B), ("not", ("and", B, A)))]
        self.assertEqual(leaned_on(answer(never)[1]), (0,))
        # One line that two lines are joined of.
        fork = [("or", A, B), ("or", A, NOT_B), ("or", NOT_A, C), NOT_C]
        self.assertEqual(leaned_on(answer(fork)[1]), (0, 1, 2, 3))

    def test_already_the_rules_leaned_on_clash(self):
        fewer = 0
        for rules, lines in clashing(range(500, 620), 10, list("abcdef"), 3):
            told = leaned_on(lines)
            self.assertIs(is_set(told), True)
            self.assertIsNone(first_facts([rules[number] for number in told]))
            self.assertEqual(told, tuple(sorted({line[1] for line in lines if line[0] == "rule"})))
            fewer += len(told) < len(rules)
            longer = lines
            for number in range(len(rules)):
                longer = with_line(longer, 0, ("rule", number, (("z", T),)))
            self.assertEqual(leaned_on(longer), told)
        self.assertGreater(fewer, 20)

    def test_the_lines_stay(self):
        lines = list(CHAIN_PAPER)
        told = leaned_on(lines)
        self.assertEqual(lines, CHAIN_PAPER)
        lines.clear()
        self.assertEqual(told, (0, 1, 2, 3))


if __name__ == "__main__":
    unittest.main()
