"""What several files share: what is asked of a thing that may be anything, and the order of tuples."""

# Kinds are looked at first, here and by those who ask: a thing of another kind may not even let itself be compared.


def is_whole_number(thing):
    return isinstance(thing, int) and not isinstance(thing, bool)


def is_worded(thing, word, many):
    # Whether it is a tuple of so many parts, the word the first of them.
    return isinstance(thing, tuple) and len(thing) == many and isinstance(thing[0], str) and thing[0] == word


def each_once_in_order(tuples):
    each = {}
    for one in tuples:
        each[one] = True
    return sorted(each, key=order_of)


def order_of(one):
    # Python compares tuples by the first place in which they differ, and False is less than True.
    return (len(one), one)
