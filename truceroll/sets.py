"""Sets: what is one, their order, their parts, and the least and greatest of some."""

from truceroll.things import each_once_in_order, is_whole_number


def is_set(thing):
    if not isinstance(thing, tuple) or not all([is_whole_number(member) for member in thing]):
        return False
    return all([thing[place - 1] < thing[place] for place in range(1, len(thing))])


def set_of(numbers):
    return tuple(sorted(set(numbers)))


def is_part(one, other):
    for member in one:
        if member not in other:
            return False
    return True


def in_order(family):
    return each_once_in_order(family)


def least_of(family):
    least = []
    # What is a part of another one has fewer members, so it comes ahead.
    for part in in_order(family):
        if not holds_one_of(part, least):
            least.append(part)
    return least


def greatest_of(family):
    greatest = []
    for part in reversed(in_order(family)):
        if not lies_in_one_of(part, greatest):
            greatest.append(part)
    return in_order(greatest)


def holds_one_of(part, family):
    for one in family:
        if is_part(one, part):
            return True
    return False


def lies_in_one_of(part, family):
    for one in family:
        if is_part(part, one):
            return True
    return False


def others_of(whole, family):
    return in_order([rest_of(whole, part) for part in family])


def rest_of(whole, part):
    return tuple([member for member in whole if member not in part])


def parts_of(whole):
    parts = [()]
    for member in whole:
        parts = parts + [part + (member,) for part in parts]
    return in_order(parts)
