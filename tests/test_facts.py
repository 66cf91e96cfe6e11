"""[6], [7]: whether a rule holds, and all facts in order."""

import itertools
import unittest

from helper import A, B, C, all_of, nested, plain_facts, plain_names, plain_truth, random_rules
from truceroll.errors import NoFact
from truceroll.facts import all_facts, holds

SIX = ["a", "b", "c", "d", "e", "f"]

# For each word the truths under a, b = False False, False True, True False, True True.
TABLES = {
    ("yes",): [True, True, True, True],
    ("no",): [False, False, False, False],
    A: [False, False, True, True],
    B: [False, True, False, True],
    ("not", A): [True, True, False, False],
    ("and", A, B): [False, False, False, True],
    ("or", A, B): [False, True, True, True],
    ("then", A, B): [True, True, False, True],
    ("then", B, A): [True, False, True, True],
    ("same", A, B): [True, False, False, True],
}


class Holds(unittest.TestCase):
    def test_each_word_under_all_facts(self):
        for rule, truths in TABLES.items():
            for (a, b), truth in zip(itertools.product((False, True), repeat=2), truths):
                self.assertIs(holds(rule, {"a": a, "b": b}), truth, (rule, a, b))

    def test_each_word_inside_another(self):
        for rule, truths in TABLES.items():
            for (a, b), truth in zip(itertools.product((False, True), repeat=2), truths):
                facts = {"b": b, "a": a}
                self.assertIs(holds(("not", rule), facts), not truth, (rule, a, b))
                self.assertIs(holds(("then", rule, ("no",)), facts), not truth, (rule, a, b))
                self.assertIs(holds(("same", ("yes",), rule), facts), truth, (rule, a, b))

    def test_many_rules(self):
        for rule in random_rules(3, 150, SIX):
            for facts in plain_facts(plain_names(rule)):
                self.assertIs(holds(rule, facts), plain_truth(rule, facts), (rule, facts))

    def test_other_names_may_stand_there(self):
        self.assertIs(holds(A, {"b": False, "a": True, "zz": False}), True)
        self.assertIs(holds(A, {"b": True, "a": False, "aa": True}), False)
        self.assertIs(holds(("yes",), {"b": True}), True)

    def test_rules_without_names_need_no_facts(self):
        self.assertIs(holds(("yes",), {}), True)
        self.assertIs(holds(("then", ("yes",), ("no",)), {}), False)

    def test_the_first_lacking_name_is_told(self):
        rule = ("or", ("is", "c"), ("and", ("is", "b"), ("or", ("is", "aa"), ("is", "a"))))
        for facts, name in [({}, "a"), ({"a": True}, "aa"), ({"aa": True, "c": True}, "a"),
                            ({"a": False, "aa": False}, "b"), ({"a": False, "aa": True, "b": True}, "c"),
                            ({"c": True, "d": True}, "a")]:
            with self.assertRaises(NoFact) as taken:
                holds(rule, facts)
            self.assertEqual(taken.exception.name, name)

    def test_lacking_also_where_its_fact_would_not_matter(self):
        for rule, facts, name in [
                (("or", A, B), {"a": True}, "b"), (("or", B, A), {"b": True}, "a"), (("and", A, B), {"a": False}, "b"),
                (("then", A, B), {"a": False}, "b"), (("then", B, A), {"a": True}, "b"), (("same", A, A), {}, "a"),
                (("or", ("yes",), C), {}, "c"), (("and", ("no",), C), {"a": True}, "c"),
                (("or", A, ("not", A)), {"b": True}, "a")]:
            with self.assertRaises(NoFact) as taken:
                holds(rule, facts)
            self.assertEqual(taken.exception.name, name)

    def test_the_facts_stay(self):
        facts = {"b": True, "a": False, "z": True}
        holds(("or", A, B), facts)
        with self.assertRaises(NoFact):
            holds(("or", A, C), facts)
        self.assertEqual(list(facts.items()), [("b", True), ("a", False), ("z", True)])

    def test_what_is_done_to_the_facts_later_counts(self):
        facts = {"a": False}
        self.assertIs(holds(A, facts), False)
        facts["a"] = True
        self.assertIs(holds(A, facts), True)
        facts.clear()
        self.assertRaises(NoFact, holds, A, facts)

    def test_somewhat_beyond_the_bounds(self):
        self.assertIs(holds(nested(8), {"a": True}), False)
        self.assertIs(holds(all_of(SIX), dict.fromkeys(SIX, True)), True)


class AllFacts(unittest.TestCase):
    def test_none_one_and_two(self):
        self.assertEqual(all_facts([]), [{}])
        self.assertEqual(all_facts(["a"]), [{"a": False}, {"a": True}])
        two = [{"a": False, "b": False}, {"a": False, "b": True}, {"a": True, "b": False}, {"a": True, "b": True}]
        self.assertEqual(all_facts(["a", "b"]), two)
        self.assertEqual(all_facts(["b", "a"]), two)

    def test_names_are_sorted_as_texts(self):
        told = all_facts(["b", "aa", "a"])
        self.assertEqual(told[1], {"a": False, "aa": False, "b": True})
        self.assertEqual(told[2], {"a": False, "aa": True, "b": False})
        self.assertEqual(told[4], {"a": True, "aa": False, "b": False})

    def test_up_to_six_and_somewhat_beyond_in_any_row(self):
        for many in range(8):
            names = [*SIX, "g"][:many]
            for row in [names, names[::-1], names[1::2] + names[::2]]:
                told = all_facts(row)
                self.assertEqual(told, plain_facts(names))
                self.assertEqual(len(told), 2 ** many)

    def test_truths_are_truths(self):
        for facts in all_facts(["a", "b"]):
            for truth in facts.values():
                self.assertIsInstance(truth, bool)

    def test_the_list_stays(self):
        names = ["c", "a", "b"]
        all_facts(names)
        self.assertEqual(names, ["c", "a", "b"])

    def test_what_is_told_is_the_askers_own(self):
        for names in [[], ["a"], ["b", "a"]]:
            told = all_facts(names)
            self.assertEqual(len({id(facts) for facts in told}), len(told))
            for facts in told:
                facts["z"] = True
                facts.pop("a", None)
            told.append({})
            self.assertEqual(all_facts(names), plain_facts(names))


if __name__ == "__main__":
    unittest.main()
