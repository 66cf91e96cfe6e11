"""[8]: rules written by words and read again."""

import unittest

from helper import A, B, TWO, all_of, nested, random_rules, things_of_other_kinds
from truceroll.errors import NoText
from truceroll.rules import is_rule
from truceroll.words import read_rule, show_rule

SIX = ["a", "b", "c", "d", "e", "f"]

WRITTEN = [
    (("yes",), "yes"),
    (("no",), "no"),
    (("is", "a"), "is a"),
    (("is", "abcdefgh"), "is abcdefgh"),
    (("not", ("is", "a")), "not is a"),
    (("and", A, B), "and is a is b"),
    (("or", A, ("no",)), "or is a no"),
    (("then", ("yes",), B), "then yes is b"),
    (("same", ("not", A), B), "same not is a is b"),
    (("then", ("and", A, ("or", B, A)), ("not", ("same", A, B))), "then and is a or is b is a not same is a is b"),
    (("is", "is"), "is is"),
    (("not", ("is", "not")), "not is not"),
    (("and", ("is", "yes"), ("yes",)), "and is yes yes"),
    (("or", ("is", "is"), ("not", ("is", "and"))), "or is is not is and"),
    (("same", ("is", "or"), ("then", ("is", "then"), ("is", "same"))), "same is or then is then is same"),
    (("and", ("is", "no"), ("no",)), "and is no no"),
]

REFUSED = ["", " ", "  ", "a", "is", "not", "and", "or", "then", "same", "is ", " is", "is A", "is a1", "is abcdefghi",
           "is -", "is a,", "Is a", "IS a", "YES", "Yes", "yes.", "yes\n", "\nyes", "yes\t", "is\ta", "is\na", "isa",
           "xor is a is b", "maybe", "0", "1", "True", "('yes',)", "(yes)", "is(a)", "not not", "not a", "and is a",
           "and is a is", "and is a b", "or is a is b is c", "yes yes", "yes no", "is a is b", "is a b", "not is a yes",
           "same yes", "then yes no yes", "is \u00e9", "is\u00a0a", "yes\x00", "\ufeffyes"]


class Words(unittest.TestCase):
    def refuse(self, thing):
        with self.assertRaises(NoText):
            read_rule(thing)

    def test_written_and_read(self):
        for rule, text in WRITTEN:
            self.assertEqual(show_rule(rule), text)
            self.assertEqual(read_rule(text), rule)
            self.assertIs(is_rule(read_rule(text)), True)

    def test_many_rules_are_read_as_they_are_written(self):
        names = ["a", "is", "not", "yes", "no", "and", "or", "then", "same", "abcdefgh"]
        for rule in random_rules(4, 400, names):
            text = show_rule(rule)
            self.assertEqual(read_rule(text), rule)
            self.assertNotIn("  ", text)

    def test_texts_that_write_no_rule(self):
        for text in REFUSED:
            self.refuse(text)

    def test_a_word_more_or_less(self):
        for rule, text in WRITTEN:
            words = text.split(" ")
            for word in ["yes", "no", "a", "is", "not", "and", ""]:
                self.refuse(" ".join([*words, word]))
            self.refuse(" ".join(words[:-1]))
            if len(words) > 1:
                self.refuse("is " + text)

    def test_a_blank_more_or_less(self):
        for rule, text in WRITTEN:
            for place in range(len(text) + 1):
                if place in (0, len(text)) or " " in text[place - 1:place + 1]:
                    self.refuse(text[:place] + " " + text[place:])
            for place, sign in enumerate(text):
                if sign == " ":
                    self.refuse_or_other(text[:place] + text[place + 1:], rule)

    def test_a_sign_put_otherwise(self):
        for rule, text in WRITTEN:
            for place in range(len(text)):
                for sign in "A0_~\n\t":
                    self.refuse(text[:place] + sign + text[place + 1:])
                self.refuse_or_other(text[:place] + "q" + text[place + 1:], rule)

    def refuse_or_other(self, text, rule):
        """A text that is another one writes another rule or none."""
        try:
            read = read_rule(text)
        except NoText:
            return
        self.assertNotEqual(read, rule)
        self.assertEqual(show_rule(read), text)

    def test_six_deep_and_seven(self):
        for many in range(9):
            for inmost in [("yes",), A]:
                rule = nested(many + 1, inmost)
                if many <= 5:
                    self.assertEqual(read_rule(show_rule(rule)), rule)
                else:
                    self.refuse(show_rule(rule))
        for word in TWO:
            self.assertEqual(read_rule(show_rule((word, A, nested(5)))), (word, A, nested(5)))
            self.refuse(show_rule((word, A, nested(6))))
            self.refuse(show_rule((word, nested(6), A)))

    def test_five_unlike_names_and_six(self):
        for word in TWO:
            five = all_of(SIX[:5], word)
            self.assertEqual(read_rule(show_rule((word, five, five))), (word, five, five))
            self.refuse(show_rule(all_of(SIX, word)))
            self.refuse(show_rule((word, five, ("is", "f"))))

    def test_some_thousand_words(self):
        for many in [1000, 5000, 100000]:
            self.refuse("not " * many + "yes")
            self.refuse("not " * many + "is a")
            self.refuse("not " * many)
            self.refuse("and " * many + "yes " * many + "yes")
            self.refuse("yes " * many + "yes")
            self.refuse(" " * many)
            self.refuse("is " + "a" * many)

    def test_what_is_no_text(self):
        for thing in [*things_of_other_kinds(), ("yes",), A, ("is", "a"), ["is a"], ("is a",), b"is a"]:
            self.refuse(thing)

    def test_good_texts_are_read_behind_refused_ones(self):
        for text in REFUSED:
            self.refuse(text)
            self.refuse(None)
            for rule, good in WRITTEN[:4]:
                self.assertEqual(read_rule(good), rule)

    def test_shown_somewhat_beyond_the_bounds(self):
        self.assertEqual(show_rule(nested(8)), "not not not not not not not is a")
        self.assertEqual(show_rule(all_of(["a", "b", "c"], "or")), "or or is a is b is c")
        self.assertEqual(show_rule(all_of(SIX)).count("is"), 6)


if __name__ == "__main__":
    unittest.main()
