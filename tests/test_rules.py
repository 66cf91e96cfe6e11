"""[5] and the names of [6]: what is a name, what is a rule, which names it has."""

import copy
import string
import unittest

from helper import A, B, TWO, all_of, nested, plain_names, random_rules, things_of_other_kinds
from truceroll.rules import is_name, is_rule, names_of, names_of_all

SIX = ["a", "b", "c", "d", "e", "f"]


class Names(unittest.TestCase):
    def test_one_to_eight_small_letters(self):
        for text in [*string.ascii_lowercase, "ab", "zz", "abcdefgh", "zzzzzzzz", "is", "not", "yes"]:
            self.assertIs(is_name(text), True, text)

    def test_none_and_nine_letters(self):
        for text in ["", "abcdefghi", "a" * 300, "a" * 10 ** 6]:
            self.assertIs(is_name(text), False)

    def test_any_other_sign(self):
        for code in [*range(0x300), 0x2c6, 0x3b1, 0x430, 0xff41, 0x1d44e, 0xd800]:
            sign = chr(code)
            if sign not in string.ascii_lowercase:
                for text in [sign, "a" + sign, sign + "a", "abc" + sign + "efg", "abcdefg" + sign]:
                    self.assertIs(is_name(text), False, repr(text))

    def test_other_kinds(self):
        for thing in [*things_of_other_kinds(), ("a",), (), ("is", "a")]:
            self.assertIs(is_name(thing), False)


class Rules(unittest.TestCase):
    def test_each_of_the_eight_words(self):
        for rule in [("yes",), ("no",), ("is", "a"), ("is", "abcdefgh"), ("is", "is"), ("is", "not"), ("is", "yes"),
                     ("not", A), ("not", ("yes",)), *[(word, A, B) for word in TWO], *[(word, A, A) for word in TWO]]:
            self.assertIs(is_rule(rule), True, rule)

    def test_rules_of_many_forms(self):
        for rule in random_rules(1, 300, SIX[:5]):
            self.assertIs(is_rule(rule), True, rule)

    def test_another_word(self):
        for word in ["", "Yes", "NO", "yes ", " yes", "xor", "if", "then ", "a", None, 0, True, ("yes",), b"yes"]:
            for rule in [(word,), (word, "a"), (word, A), (word, A, B)]:
                self.assertIs(is_rule(rule), False, rule)
                self.assertIs(is_rule(("not", rule)), False, rule)

    def test_a_part_more_or_less(self):
        most = {"yes": 0, "no": 0, "is": 1, "not": 1, "and": 2, "or": 2, "then": 2, "same": 2}
        for word, right in most.items():
            for many in range(5):
                for part in [A, "a"]:
                    rule = (word, *[part] * many)
                    good = many == right and (many == 0 or (part == "a") == (word == "is"))
                    self.assertIs(is_rule(rule), good, rule)
                    self.assertIs(is_rule(("or", A, rule)), good, rule)

    def test_no_rule_of_no_parts(self):
        for thing in [(), ((),), ("not", ()), ("and", A, ())]:
            self.assertIs(is_rule(thing), False, thing)

    def test_the_name_must_be_one(self):
        for name in ["", "A", "a b", "abcdefghi", "a1", None, 1, True, ("a",), ["a"], A]:
            self.assertIs(is_rule(("is", name)), False, name)
            self.assertIs(is_rule(("not", ("is", name))), False, name)

    def test_a_list_in_the_place_of_a_tuple(self):
        for thing in [["yes"], ["is", "a"], ["not", A], ("not", ["yes"]), ("and", A, ["is", "b"]),
                      ("and", ["is", "b"], A), ("not", ("not", ["is", "a"]))]:
            self.assertIs(is_rule(thing), False, thing)

    def test_other_kinds_at_the_top_and_inside(self):
        for thing in things_of_other_kinds():
            for rule in [thing, (thing,), (thing, A), (thing, "a"), ("is", thing), ("not", thing), ("and", thing, A),
                         ("or", A, thing), ("not", ("same", A, thing)), ("then", ("is", thing), A)]:
                self.assertIs(is_rule(rule), False)

    def test_texts_in_the_place_of_rules(self):
        for text in ["", "a", "yes", "is a"]:
            for rule in [text, ("not", text), ("and", text, A), ("or", A, text), ("not", ("same", A, text))]:
                self.assertIs(is_rule(rule), False, rule)

    def test_six_deep_and_seven(self):
        for inmost in [("yes",), ("no",), A]:
            for depth in range(1, 10):
                self.assertIs(is_rule(nested(depth, inmost)), depth <= 6, depth)

    def test_the_deepest_part_counts(self):
        for word in TWO:
            for depth in range(1, 9):
                self.assertIs(is_rule((word, A, nested(depth))), depth <= 5)
                self.assertIs(is_rule((word, nested(depth), A)), depth <= 5)

    def test_five_unlike_names_and_six(self):
        for word in TWO:
            self.assertIs(is_rule(all_of(SIX[:5], word)), True)
            self.assertIs(is_rule(all_of(SIX, word)), False)
            self.assertIs(is_rule((word, all_of(SIX[:5], word), all_of(SIX[:5], word))), True)
            self.assertIs(is_rule((word, all_of(SIX[:5], word), ("is", "f"))), False)
            self.assertIs(is_rule((word, ("is", "aa"), all_of(SIX[:4], word))), True)
            self.assertIs(is_rule((word, ("is", "aa"), all_of(SIX[:5], word))), False)

    def test_nested_far_deeper(self):
        for many in [1000, 5000, 200000]:
            thing = nested(many)
            self.assertIs(is_rule(thing), False)
            self.assertIs(is_rule(("and", A, thing)), False)
        for word in TWO:
            thing = A
            for _ in range(5000):
                thing = (word, thing, thing)
            self.assertIs(is_rule(thing), False)

    def test_a_thing_that_holds_itself(self):
        knot = []
        thing = ("not", knot)
        knot.append(thing)
        self.assertIs(is_rule(thing), False)
        self.assertIs(is_rule(knot), False)


class NamesOf(unittest.TestCase):
    def test_sorted_and_each_once(self):
        self.assertEqual(names_of(("yes",)), [])
        self.assertEqual(names_of(("not", ("no",))), [])
        self.assertEqual(names_of(A), ["a"])
        self.assertEqual(names_of(("and", ("is", "b"), ("is", "b"))), ["b"])
        rule = ("or", ("then", ("is", "b"), ("is", "aa")), ("same", ("is", "a"), ("not", ("is", "b"))))
        self.assertEqual(names_of(rule), ["a", "aa", "b"])
        self.assertEqual(names_of(("or", ("is", "yes"), ("is", "not"))), ["not", "yes"])

    def test_many_rules(self):
        for rule in random_rules(2, 200, SIX):
            self.assertEqual(names_of(rule), sorted(plain_names(rule)))

    def test_somewhat_beyond_the_bounds(self):
        self.assertEqual(names_of(nested(9)), ["a"])
        self.assertEqual(names_of(all_of(SIX[::-1])), SIX)

    def test_a_told_list_is_the_askers_own(self):
        rule = ("and", A, B)
        told = names_of(rule)
        told.append("z")
        told[0] = "q"
        self.assertEqual(names_of(rule), ["a", "b"])

    def test_names_of_some_rules_together(self):
        rules = [("is", "b"), ("yes",), ("or", ("is", "c"), A), ("is", "b")]
        kept = copy.deepcopy(rules)
        self.assertEqual(names_of_all(rules), ["a", "b", "c"])
        self.assertEqual(rules, kept)
        self.assertEqual(names_of_all([]), [])


if __name__ == "__main__":
    unittest.main()
