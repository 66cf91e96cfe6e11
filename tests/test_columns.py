"""A rule under all facts at once, held against a look at each of them."""

import unittest

from helper import A, B, plain_facts, plain_truth, random_rules
from truceroll.columns import Columns


class Bits(unittest.TestCase):
    def test_one_bit_for_each_facts(self):
        for many in range(8):
            columns = Columns(list("abcdefg")[:many])
            self.assertEqual(bin(columns.every).count("1"), len(plain_facts("abcdefg"[:many])))
            self.assertEqual(columns.bits_of(("yes",)), columns.every)
            self.assertEqual(columns.bits_of(("no",)), 0)

    def test_as_many_bits_as_facts_under_which_rules_hold(self):
        columns = Columns(list("abcde"))
        rules = random_rules(26, 80, list("abcde"))
        for rule, other in zip(rules, rules[1:]):
            rows = [facts for facts in plain_facts("abcde") if plain_truth(rule, facts)]
            self.assertEqual(bin(columns.bits_of(rule)).count("1"), len(rows))
            rows = [facts for facts in rows if plain_truth(other, facts)]
            self.assertEqual(bin(columns.bits_of_all([rule, other])).count("1"), len(rows))
            self.assertEqual(columns.bits_of_all([rule, other]) & ~columns.every, 0)

    def test_none_and_several(self):
        columns = Columns(["a", "b"])
        self.assertEqual(columns.bits_of_all([]), columns.every)
        self.assertEqual(columns.bits_of_all([A, B, ("not", A)]), 0)
        self.assertEqual(columns.bits_of_all([A, B]), columns.bits_of(("and", A, B)))


if __name__ == "__main__":
    unittest.main()
