"""[27], [28] and the fourth entry of [4]: which things are papers of a least clash, or of a greatest peace."""

import copy
import random
import unittest

from helper import (A, B, C, all_parts, is_plain_paper, lines_put_otherwise, nested_far, plain_names, plain_truth,
                    random_firm, random_heap, things_of_other_kinds, with_line)
from truceroll.readers import is_clash_paper, is_peace_paper
from truceroll.truces import Truce

T, F = True, False
YES, NO = ("yes",), ("no",)
NOT_A, NOT_B, NOT_C = ("not", A), ("not", B), ("not", C)

FIRM = [("then", A, B)]
HEAP = [(7, NOT_B), (2, A), (10, ("then", B, C)), (9, NOT_C)]
CLASH = (2, 7)
CLASH_PAPER = ([("rule", 1, (("a", T),)), ("rule", 0, (("a", F), ("b", T))), ("join", 0, 1, "a", (("b", T),)),
                ("rule", 2, (("b", F),)), ("join", 2, 3, "b", ())],
               [{"a": F, "b": F}, {"a": T, "b": T}])
PEACE = (7, 9, 10)
PEACE_PAPER = ({"a": F, "b": F, "c": F}, [CLASH_PAPER[0]])
OTHER_PEACE = (2, 9)
OTHER_PEACE_PAPER = ({"a": T, "b": T, "c": F},
                     [CLASH_PAPER[0],
                      [("rule", 1, (("a", T),)), ("rule", 0, (("a", F), ("b", T))), ("join", 0, 1, "a", (("b", T),)),
                       ("rule", 3, (("b", F), ("c", T))), ("join", 2, 3, "b", (("c", T),)), ("rule", 2, (("c", F),)),
                       ("join", 4, 5, "c", ())]])


def drawn(seed, many, most_firm=4, most_sayings=6):
    chance = random.Random(seed)
    for _ in range(many):
        names = list("abcde")[:chance.randint(2, 5)]
        yield (random_firm(chance, chance.randint(0, most_firm), names),
               random_heap(chance, chance.randint(0, most_sayings), names))


def rules_for(firm, heap, part):
    return firm + [rule for label, rule in sorted(heap) if label in part]


def are_plain_facts(rules, thing):
    names = set().union(*(plain_names(rule) for rule in rules))
    return (type(thing) is dict and all(type(thing.get(name)) is bool for name in names)
            and all(plain_truth(rule, thing) for rule in rules))


def is_plain_clash_paper(firm, heap, part, thing):
    """By the words of [27], for pairs of lines and of a list of facts."""
    return (is_plain_paper(rules_for(firm, heap, part), thing[0]) and len(thing[1]) == len(part)
            and all(are_plain_facts(rules_for(firm, heap, set(part) - {label}), facts)
                    for label, facts in zip(part, thing[1])))


def is_plain_peace_paper(firm, heap, part, thing):
    """By the words of [28], for pairs of facts and of a list of lines."""
    others = [label for label, _ in sorted(heap) if label not in part]
    return (are_plain_facts(rules_for(firm, heap, part), thing[0]) and len(thing[1]) == len(others)
            and all(is_plain_paper(rules_for(firm, heap, {*part, label}), lines)
                    for label, lines in zip(others, thing[1])))


def facts_put_otherwise(chance, facts):
    """The facts with one of them lacking, turned, no truth, or one more."""
    other = dict(facts)
    name = chance.choice([*facts, "zz"])
    way = chance.randrange(4)
    if way == 0:
        other.pop(name, None)
    elif way == 1:
        other[name] = not facts.get(name)
    elif way == 2:
        other[name] = int(facts.get(name, F)) if name in facts else T
    else:
        other["zzz"] = T
    return other


def rows_put_otherwise(chance, rows, inside):
    place = chance.randrange(len(rows) + 1)
    ways = [lambda: rows[:place] + rows[place + 1:], lambda: rows[:place] + rows[-1:] + rows[place:],
            lambda: rows[::-1]]
    if place < len(rows):
        changed = lambda: rows[:place] + [inside(chance, rows[place])] + rows[place + 1:]
        ways += [changed] * 4
    return chance.choice(ways)()


class Clashes(unittest.TestCase):
    def refuses(self, thing, part=CLASH):
        self.assertIs(is_clash_paper(FIRM, HEAP, part, thing), False)

    def lets_by(self, thing):
        self.assertIs(is_clash_paper(FIRM, HEAP, CLASH, thing), True)

    def test_known_ones(self):
        self.lets_by(CLASH_PAPER)
        self.assertTrue(is_plain_clash_paper(FIRM, HEAP, CLASH, CLASH_PAPER))
        self.assertIs(is_clash_paper([NO], HEAP, (), ([("rule", 0, ())], [])), True)
        self.assertIs(is_clash_paper([], [(5, NO)], (5,), ([("rule", 0, ())], [{}])), True)
        self.assertIs(is_clash_paper([], [(5, NO)], (), ([("rule", 0, ())], [])), False)
        self.assertIs(is_clash_paper([NO], [(5, NO)], (5,), ([("rule", 0, ())], [{}])), False)

    def test_told_ones_and_no_other_set(self):
        for firm, heap in [(FIRM, HEAP), ([NO], HEAP), ([], []), *drawn(27, 40)]:
            truce = Truce(firm, heap)
            papers = {part: truce.clash_paper(part) for part in truce.clashes()}
            for part in all_parts(truce.labels()):
                for clash, paper in papers.items():
                    # Where rules are alike, the paper of one clash may serve another one too.
                    let_by = is_clash_paper(firm, heap, part, paper)
                    self.assertLessEqual(part == clash, let_by)
                    self.assertLessEqual(let_by, part in papers)
                    self.assertIs(is_clash_paper(firm, heap, part, (paper[0], [{}] * len(part))),
                                  is_plain_clash_paper(firm, heap, part, (paper[0], [{}] * len(part))))

    def test_any_row_of_the_heap(self):
        for heap in [HEAP[::-1], sorted(HEAP), HEAP[2:] + HEAP[:2]]:
            self.assertIs(is_clash_paper(FIRM, heap, CLASH, CLASH_PAPER), True)
        self.assertIs(is_clash_paper([], HEAP, CLASH, CLASH_PAPER), False)

    def test_a_clash_that_is_not_least(self):
        lines = [("rule", 1, (("a", T),)), ("rule", 0, (("a", F), ("b", T))), ("join", 0, 1, "a", (("b", T),)),
                 ("rule", 2, (("b", F),)), ("join", 2, 3, "b", ())]
        facts = CLASH_PAPER[1]
        for rows in [[*facts, {"a": T, "b": T, "c": T}], [*facts, {"a": F, "b": F, "c": F}], facts,
                     [facts[0], facts[1], {}]]:
            self.refuses((lines, rows), (2, 7, 9))
            self.refuses((lines, rows), (2, 7, 10))

    def test_further_names_and_idle_lines_are_let_by(self):
        lines, rows = CLASH_PAPER
        self.lets_by((lines, [{**row, "c": F, "zz": T} for row in rows]))
        self.lets_by((with_line(lines, 0, ("rule", 2, (("b", F),))), rows))
        self.lets_by((lines + lines, rows))
        self.lets_by((lines, [dict(reversed(row.items())) for row in rows]))

    def test_other_facts_that_hold_are_let_by(self):
        self.lets_by((CLASH_PAPER[0], [{"a": F, "b": F}, {"a": T, "b": T}]))
        # In the first row the saying of 2 needn't hold, so its name counts by the firm rule alone.
        self.refuses((CLASH_PAPER[0], [{"a": T, "b": F}, {"a": T, "b": T}]))

    def test_names_of_the_sayings_that_need_not_hold_may_lack(self):
        heap = [(1, A), (2, ("and", NOT_A, B))]
        lines = [("rule", 0, (("a", T),)), ("rule", 1, (("a", F),)), ("join", 0, 1, "a", ())]
        self.assertIs(is_clash_paper([], heap, (1, 2), (lines, [{"a": F, "b": T}, {"a": T}])), True)
        self.assertIs(is_clash_paper([], heap, (1, 2), (lines, [{"a": F}, {"a": T}])), False)

    def test_names_on_which_the_rules_do_not_hang_may_not_lack(self):
        heap = [(1, ("or", YES, A)), (2, NO)]
        lines = [("rule", 0, ())]
        self.assertIs(is_clash_paper([("or", YES, B)], heap[1:], (2,), ([("rule", 1, ())], [{"b": F}])), True)
        self.assertIs(is_clash_paper([("or", YES, B)], heap[1:], (2,), ([("rule", 1, ())], [{}])), False)
        self.assertIs(is_clash_paper([], heap[1:], (2,), (lines, [{}])), True)

    def test_a_row_more_or_less(self):
        lines, rows = CLASH_PAPER
        for other in [rows[:1], rows[1:], [], rows + rows[:1], rows[:1] + rows, rows + [{}], [{}] + rows, rows[::-1]]:
            self.refuses((lines, other))
        self.assertIs(is_clash_paper([NO], HEAP, (), ([("rule", 0, ())], [{}])), False)

    def test_a_fact_that_is_lacking_wrong_or_no_truth(self):
        lines, rows = CLASH_PAPER
        for place, row in enumerate(rows):
            for name in row:
                lacking = {other: truth for other, truth in row.items() if other != name}
                for facts in [lacking, {}, *({**row, name: truth} for truth in
                                             [0, 1, None, "True", "", 1.0, 0.0, [], (True,), {}, nested_far(10)])]:
                    self.refuses((lines, rows[:place] + [facts] + rows[place + 1:]))
        self.refuses((lines, [{"a": F, "b": T}, rows[1]]))
        self.refuses((lines, [rows[0], {"a": T, "b": F}]))
        self.refuses((lines, [rows[0], {"a": F, "b": T}]))

    def test_a_line_spoilt(self):
        lines, rows = CLASH_PAPER
        for place, line in enumerate(lines):
            for other in [line[:-1], line + ((),), list(line), ("rule", 0, ()), (line[0], True, *line[2:]),
                          (line[0], line[1] + 1, *line[2:]), None, ()]:
                self.refuses((lines[:place] + [other] + lines[place + 1:], rows))
            self.refuses((lines[:place], rows))
            self.refuses((lines[:place] + lines[place + 1:], rows))

    def test_put_otherwise_held_against_the_words(self):
        chance = random.Random(271)
        counts = {T: 0, F: 0}
        for firm, heap in [(FIRM, HEAP), *drawn(28, 40)]:
            truce = Truce(firm, heap)
            for part in truce.clashes():
                for _ in range(12):
                    lines, rows = truce.clash_paper(part)
                    if chance.random() < 0.5:
                        lines = lines_put_otherwise(chance, lines)
                    else:
                        rows = rows_put_otherwise(chance, rows, facts_put_otherwise)
                    good = is_plain_clash_paper(firm, heap, part, (lines, rows))
                    self.assertIs(is_clash_paper(firm, heap, part, (lines, rows)), good)
                    counts[good] += 1
        self.assertGreater(min(counts.values()), 100)

    def test_tuples_and_lists_exchanged(self):
        lines, rows = CLASH_PAPER
        for thing in [[lines, rows], (tuple(lines), rows), (lines, tuple(rows)), ([list(line) for line in lines], rows),
                      (lines, [list(row.items()) for row in rows]), (lines, [tuple(row) for row in rows]),
                      (lines, {0: rows[0], 1: rows[1]}), (rows, lines), (lines, rows, rows), (lines,), (), lines, rows,
                      ((lines, rows),), {0: lines, 1: rows}]:
            self.refuses(thing)

    def test_other_kinds_at_the_top_and_inside(self):
        lines, rows = CLASH_PAPER
        for thing in [*things_of_other_kinds(), "", "ab", (), ((), ()), nested_far()]:
            for other in [thing, (thing, rows), (lines, thing), (thing, thing), (lines, [thing, rows[1]]),
                          (lines, [rows[0], thing]), (lines, [thing, thing]), ([thing], rows),
                          (lines[:-1] + [thing], rows)]:
                self.refuses(other)
            if thing is not T and thing is not F:
                self.refuses((lines, [{"a": F, "b": thing}, rows[1]]))
                self.refuses((lines, [rows[0], {"a": thing, "b": T}]))

    def test_what_is_handed_in_stays(self):
        firm, heap, thing = copy.deepcopy((FIRM, HEAP, CLASH_PAPER))
        for _ in range(2):
            self.assertIs(is_clash_paper(firm, heap, CLASH, thing), True)
        self.assertEqual((firm, heap, thing), (FIRM, HEAP, CLASH_PAPER))


class Peaces(unittest.TestCase):
    def refuses(self, thing, part=OTHER_PEACE):
        self.assertIs(is_peace_paper(FIRM, HEAP, part, thing), False)

    def lets_by(self, thing, part=OTHER_PEACE):
        self.assertIs(is_peace_paper(FIRM, HEAP, part, thing), True)

    def test_known_ones(self):
        for part, paper in [(PEACE, PEACE_PAPER), (OTHER_PEACE, OTHER_PEACE_PAPER)]:
            self.assertTrue(is_plain_peace_paper(FIRM, HEAP, part, paper))
            self.lets_by(paper, part)
        self.assertIs(is_peace_paper([], [], (), ({}, [])), True)
        self.assertIs(is_peace_paper([NO], [], (), ({}, [])), False)
        self.assertIs(is_peace_paper([], [(5, NO)], (), ({}, [[("rule", 0, ())]])), True)
        self.assertIs(is_peace_paper([], [(5, NO)], (5,), ({}, [])), False)
        self.assertIs(is_peace_paper([], [(5, YES)], (5,), ({}, [])), True)
        self.assertIs(is_peace_paper([A], [(5, YES)], (5,), ({}, [])), False)
        self.assertIs(is_peace_paper([A], [(5, YES)], (5,), ({"a": T}, [])), True)

    def test_told_ones_and_no_other_set(self):
        for firm, heap in [(FIRM, HEAP), ([NO], HEAP), ([], []), *drawn(29, 40)]:
            truce = Truce(firm, heap)
            papers = {part: truce.peace_paper(part) for part in truce.peaces()}
            for part in all_parts(truce.labels()):
                for peace, paper in papers.items():
                    let_by = is_peace_paper(firm, heap, part, paper)
                    self.assertLessEqual(part == peace, let_by)
                    self.assertLessEqual(let_by, part in papers)
                    rows = [paper[1][0] if paper[1] else []] * (len(heap) - len(part))
                    self.assertIs(is_peace_paper(firm, heap, part, (paper[0], rows)),
                                  is_plain_peace_paper(firm, heap, part, (paper[0], rows)))

    def test_any_row_of_the_heap(self):
        for heap in [HEAP[::-1], sorted(HEAP), HEAP[2:] + HEAP[:2]]:
            self.assertIs(is_peace_paper(FIRM, heap, OTHER_PEACE, OTHER_PEACE_PAPER), True)
        self.assertIs(is_peace_paper([YES], HEAP, OTHER_PEACE, OTHER_PEACE_PAPER), False)

    def test_a_peace_that_is_not_greatest(self):
        facts, rows = OTHER_PEACE_PAPER
        for part, many in [((2,), 3), ((9,), 3), ((), 4)]:
            for some in [rows, rows * 2, rows[:1] * many, rows[1:] * many, [[]] * many]:
                self.refuses((facts, some[:many]), part)

    def test_the_sayings_stand_from_the_least_label_on(self):
        # The label that the peace lacks is the least one, so its saying stands right behind the firm rules.
        lines = [("rule", 0, (("a", T),)), ("rule", 1, (("a", F),)), ("join", 0, 1, "a", ())]
        turned = [("rule", 1, (("a", T),)), ("rule", 0, (("a", F),)), ("join", 0, 1, "a", ())]
        heap = [(4, NOT_A), (3, A)]
        self.assertIs(is_peace_paper([], heap, (4,), ({"a": F}, [lines])), True)
        self.assertIs(is_peace_paper([], heap, (4,), ({"a": F}, [turned])), False)
        self.assertIs(is_peace_paper([], heap, (3,), ({"a": T}, [lines])), True)
        self.assertIs(is_peace_paper([], heap, (3,), ({"a": T}, [turned])), False)

    def test_further_names_and_idle_lines_are_let_by(self):
        facts, rows = OTHER_PEACE_PAPER
        self.lets_by(({**facts, "zz": T, "d": F}, rows))
        self.lets_by((facts, [with_line(rows[0], 0, ("rule", 2, (("b", F),))), rows[1]]))
        self.lets_by((facts, [rows[0] + rows[0], rows[1]]))

    def test_a_row_more_or_less(self):
        facts, rows = OTHER_PEACE_PAPER
        for other in [rows[:1], rows[1:], [], rows + rows[:1], rows[:1] + rows, rows + [[]], rows[::-1]]:
            self.refuses((facts, other))
        self.assertIs(is_peace_paper([], [], (), ({}, [[]])), False)
        self.assertIs(is_peace_paper([], [], (), ({}, [[("rule", 0, ())]])), False)

    def test_a_fact_that_is_lacking_wrong_or_no_truth(self):
        facts, rows = OTHER_PEACE_PAPER
        for name in facts:
            self.refuses(({other: truth for other, truth in facts.items() if other != name}, rows))
            for truth in [not facts[name], int(facts[name]), None, "True", "", float(facts[name]), [], (True,)]:
                self.refuses(({**facts, name: truth}, rows))

    def test_a_line_spoilt(self):
        facts, rows = OTHER_PEACE_PAPER
        for number, lines in enumerate(rows):
            for place, line in enumerate(lines):
                for other in [line[:-1], line + ((),), list(line), ("rule", 0, ()), (line[0], True, *line[2:]),
                              (line[0], line[1] + 1, *line[2:]), None, ()]:
                    spoilt = lines[:place] + [other] + lines[place + 1:]
                    self.refuses((facts, rows[:number] + [spoilt] + rows[number + 1:]))
                self.refuses((facts, rows[:number] + [lines[:place]] + rows[number + 1:]))

    def test_put_otherwise_held_against_the_words(self):
        chance = random.Random(281)
        counts = {T: 0, F: 0}
        for firm, heap in [(FIRM, HEAP), *drawn(30, 40)]:
            truce = Truce(firm, heap)
            for part in truce.peaces():
                for _ in range(12):
                    facts, rows = truce.peace_paper(part)
                    if chance.random() < 0.3:
                        facts = facts_put_otherwise(chance, facts)
                    else:
                        rows = rows_put_otherwise(chance, rows, lines_put_otherwise)
                    good = is_plain_peace_paper(firm, heap, part, (facts, rows))
                    self.assertIs(is_peace_paper(firm, heap, part, (facts, rows)), good)
                    counts[good] += 1
        self.assertGreater(min(counts.values()), 100)

    def test_tuples_and_lists_exchanged(self):
        facts, rows = OTHER_PEACE_PAPER
        for thing in [[facts, rows], (facts, tuple(rows)), (list(facts.items()), rows), (tuple(facts), rows),
                      (facts, [tuple(lines) for lines in rows]), (facts, [[list(line) for line in rows[0]], rows[1]]),
                      (facts, {0: rows[0], 1: rows[1]}), (rows, facts), (facts, rows, rows), (facts,), (), facts, rows,
                      ((facts, rows),)]:
            self.refuses(thing)

    def test_other_kinds_at_the_top_and_inside(self):
        facts, rows = OTHER_PEACE_PAPER
        for thing in [*things_of_other_kinds(), "", "ab", (), ((), ()), nested_far()]:
            for other in [thing, (thing, rows), (facts, thing), (thing, thing), (facts, [thing, rows[1]]),
                          (facts, [rows[0], thing]), (facts, [rows[0], rows[1][:-1] + [thing]]),
                          (facts, [[thing], rows[1]])]:
                self.refuses(other)
            if thing is not T and thing is not F:
                self.refuses(({**facts, "b": thing}, rows))

    def test_what_is_handed_in_stays(self):
        firm, heap, thing = copy.deepcopy((FIRM, HEAP, OTHER_PEACE_PAPER))
        for _ in range(2):
            self.assertIs(is_peace_paper(firm, heap, OTHER_PEACE, thing), True)
        self.assertEqual((firm, heap, thing), (FIRM, HEAP, OTHER_PEACE_PAPER))


class NoPaperForWhatIsNotSo(unittest.TestCase):
    def test_papers_of_other_heaps(self):
        chance = random.Random(4)
        tried = 0
        for firm, heap in drawn(40, 40, 3, 5):
            truce = Truce(firm, heap)
            place = chance.randrange(len(heap) + 1)
            other = heap[:place] + [(label, ("or", rule, B)) for label, rule in heap[place:]]
            fresh = Truce(firm, other)
            for part in truce.clashes():
                let_by = is_clash_paper(firm, other, part, truce.clash_paper(part))
                self.assertLessEqual(let_by, part in fresh.clashes())
                tried += part not in fresh.clashes()
            for part in truce.peaces():
                let_by = is_peace_paper(firm, other, part, truce.peace_paper(part))
                self.assertLessEqual(let_by, part in fresh.peaces())
                tried += part not in fresh.peaces()
        self.assertGreater(tried, 20)


if __name__ == "__main__":
    unittest.main()
