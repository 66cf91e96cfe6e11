"""[3]: the refusals."""

import unittest

from helper import Touchy
from truceroll import errors
from truceroll.errors import TruceError

FIELDS = {
    "NoFact": "name", "NoText": None, "NoJoin": "name", "NoPeace": "part", "NoClash": "part", "BadHeap": "place",
    "NoTruce": None, "OtherLabels": None, "BadLabel": None, "Taken": "label", "BadRule": None, "TooMany": "most",
    "NoLabel": "label", "NoRow": None,
}
VALUES = {
    "name": ["a", "abcdefgh"],
    "part": [(), (1,), (1, 4, 10 ** 18)],
    "place": [0, 1, 11, 10 ** 100],
    "label": [0, 1, 10 ** 18, 10 ** 100],
    "most": [0, 10, 12, 10 ** 100],
}


def made(word):
    field = FIELDS[word]
    return getattr(errors, word)(VALUES[field][0] if field else "some words")


class Errors(unittest.TestCase):
    def test_the_base_stands_under_value_error(self):
        self.assertEqual(TruceError.__bases__, (ValueError,))

    def test_fourteen_each_straight_under_the_base(self):
        self.assertEqual(len(FIELDS), 14)
        for word in FIELDS:
            self.assertEqual(getattr(errors, word).__bases__, (TruceError,), word)

    def test_no_other_class_is_there(self):
        classes = {word for word, thing in vars(errors).items() if isinstance(thing, type)}
        self.assertEqual(classes, set(FIELDS) | {"TruceError"})

    def test_each_is_taken_by_the_bases_and_by_itself_alone(self):
        for word in FIELDS:
            for taker in ["TruceError", *FIELDS]:
                with self.subTest(word=word, taker=taker):
                    taken = False
                    try:
                        raise made(word)
                    except getattr(errors, taker):
                        taken = True
                    except ValueError:
                        pass
                    self.assertEqual(taken, taker in ("TruceError", word))

    def test_fields_are_what_it_was_made_with(self):
        for word, field in FIELDS.items():
            for value in VALUES.get(field, []):
                error = getattr(errors, word)(value)
                self.assertEqual(vars(error), {field: value}, word)

    def test_made_with_the_field_alone(self):
        for word, field in FIELDS.items():
            if field:
                for values in [(), (1, 2)]:
                    with self.assertRaises(TypeError):
                        getattr(errors, word)(*values)

    def test_the_others_are_made_with_a_text_and_have_no_field(self):
        for word, field in FIELDS.items():
            if field is None:
                error = getattr(errors, word)("some words")
                self.assertEqual(vars(error), {}, word)
                self.assertEqual(str(error), "some words", word)

    def test_a_field_that_cannot_be_shown(self):
        deep = ()
        for _ in range(100000):
            deep = (deep,)
        for thing in [deep, 10 ** 5000, Touchy(), [1]]:
            error = errors.NoLabel(thing)
            self.assertIs(error.label, thing)
            self.assertIsInstance(str(error), str)


if __name__ == "__main__":
    unittest.main()
