"""The least sets that have a member in each of some sets; and sets without a number, or freed of it."""

from truceroll.sets import holds_one_of, in_order, least_of, rest_of, set_of


def crossings_of(family):
    return in_order(crossings_within(least_of(family)))


def crossings_within(family):
    if family == []:
        return [()]
    # Of the least ones in order () is the first, if it is there at all, and then it is the only one.
    if family[0] == ():
        return []
    number = family[0][0]
    # Those that don't hold the number cross what is left when it is taken out; the others, but for the number, cross
    # the sets that don't hold it, and they aren't among the least where they can do without the number.
    lacking = crossings_within(freed(family, number))
    holding = [part for part in crossings_within(without(family, number)) if not holds_one_of(part, lacking)]
    return lacking + [set_of(part + (number,)) for part in holding]


def without(family, number):
    return in_order([part for part in family if number not in part])


def freed(family, number):
    return least_of([rest_of(part, (number,)) for part in family])
