"""What is asked of a thing that may be anything, before more is asked of it."""

# Kinds are looked at first, here and by those who ask: a thing of another kind may not even let itself be compared.


def is_whole_number(thing):
    return isinstance(thing, int) and not isinstance(thing, bool)


def is_worded(thing, word, many):
    # Whether it is a tuple of so many parts, the word the first of them.
    return isinstance(thing, tuple) and len(thing) == many and isinstance(thing[0], str) and thing[0] == word
