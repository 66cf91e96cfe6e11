"""[37]: sets and numbers written by signs, and read again."""

import random
import unittest

from helper import all_parts, nested_far, random_set, things_of_other_kinds
from truceroll.errors import NoText, TruceError
from truceroll.signs import read_number, read_set, show_family, show_set

LONG = 10 ** 60 - 1


class Show(unittest.TestCase):
    def test_sets(self):
        for part, text in [((), "-"), ((0,), "0"), ((1, 4, 19), "1+4+19"), ((7,), "7"), ((0, 10), "0+10"),
                           ((9, 10, 100), "9+10+100"), ((10 ** 18,), "1" + "0" * 18), ((1, LONG), "1+" + "9" * 60),
                           ((10 ** 100,), "1" + "0" * 100)]:
            self.assertEqual(show_set(part), text)
            self.assertIs(type(show_set(part)), str)

    def test_families(self):
        for family, text in [([], ""), ([()], "-"), ([(1,)], "1"), ([(1, 2), (1, 3)], "1+2 1+3"),
                             ([(), (0,), (2, 10)], "- 0 2+10"), ([(5, 6), (1,), ()], "5+6 1 -"), ([(1,), (1,)], "1 1")]:
            self.assertEqual(show_family(family), text)

    def test_what_is_handed_in_stays(self):
        family = [(2, 3), (1,)]
        show_family(family)
        self.assertEqual(family, [(2, 3), (1,)])


class ReadNumber(unittest.TestCase):
    def test_numbers(self):
        for number in [*range(120), 10 ** 18, 10 ** 18 + 1, 10 ** 59, 10 ** 59 - 1, LONG]:
            self.assertEqual(read_number(str(number)), number)
            self.assertIs(type(read_number(str(number))), int)

    def refuses(self, thing):
        with self.assertRaises(NoText) as caught:
            read_number(thing)
        self.assertIs(type(caught.exception), NoText)
        self.assertIsInstance(caught.exception, TruceError)

    def test_too_many_figures(self):
        for text in ["1" + "0" * 60, "9" * 61, "0" * 61, "1" * 5000, "9" * 100000]:
            self.refuses(text)

    def test_noughts_ahead(self):
        for text in ["00", "01", "007", "0" * 60, "0" + "1" * 59, "010"]:
            self.refuses(text)

    def test_other_signs(self):
        for text in ["", " ", "-", "+", "-1", "+1", "1+", "1+2", " 1", "1 ", "1 2", "1_0", "0x1", "1.0", "1e3", "a",
                     "one", "1\n", "\n1", "1\t", "\u0661", "\u00b2", "\uff11", "1\u0661", "\x00", "/", ":", "1/",
                     "1:", "\ud800"]:
            self.refuses(text)

    def test_other_kinds(self):
        for thing in [*things_of_other_kinds(), (), ("1",), (1,), nested_far()]:
            self.refuses(thing)


class ReadSet(unittest.TestCase):
    def refuses(self, thing):
        with self.assertRaises(NoText) as caught:
            read_set(thing)
        self.assertIs(type(caught.exception), NoText)

    def test_sets(self):
        for text, part in [("-", ()), ("0", (0,)), ("1+4+19", (1, 4, 19)), ("0+1", (0, 1)), ("9+10", (9, 10)),
                           ("1+" + "9" * 60, (1, LONG)), ("9" * 60, (LONG,))]:
            self.assertEqual(read_set(text), part)
            self.assertIs(type(read_set(text)), tuple)

    def test_what_is_written_is_read_to_the_same(self):
        chance = random.Random(37)
        members = [0, 1, 2, 9, 10, 11, 99, 100, 10 ** 18, LONG - 1, LONG]
        for part in [*all_parts(range(6)), *(random_set(chance, members) for _ in range(200)), tuple(range(300))]:
            self.assertEqual(read_set(show_set(part)), part)

    def test_not_rising_and_twice(self):
        for text in ["2+1", "1+1", "1+2+2", "1+3+2", "10+9", "0+0", "1+0", "1+2+1"]:
            self.refuses(text)

    def test_members_that_are_none(self):
        for text in ["", "+", "+1", "1+", "1++2", "++", "1+2+", "+1+2", "01", "1+02", "00+1", "1+ 2", "1 +2", " 1",
                     "1 ", "1 2", "1+-", "-+1", "--", "- ", " -", "-1", "1+-2", "a", "1+a", "1,2", "1+2\n", "(1,)",
                     "\u0661+2", "1+" + "9" * 61, "9" * 61, "1" + "0" * 60, "1+\u00b2"]:
            self.refuses(text)

    def test_other_kinds(self):
        for thing in [*things_of_other_kinds(), (), (1, 2), ("1",), nested_far()]:
            self.refuses(thing)

    def test_very_long_texts(self):
        self.assertEqual(read_set("+".join(map(str, range(5000)))), tuple(range(5000)))
        self.refuses("+" * 100000)
        self.refuses("-" * 100000)


if __name__ == "__main__":
    unittest.main()
