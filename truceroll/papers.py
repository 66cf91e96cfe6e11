"""Papers: whether a thing leads some rules to the clause that never holds, and which rules that leans on."""

from truceroll.clauses import is_clause, joined
from truceroll.errors import NoJoin
from truceroll.rules import is_name
from truceroll.sets import set_of
from truceroll.shortest import shortest_of_each
from truceroll.things import is_whole_number, is_worded


def is_paper(rules, thing):
    return is_paper_by(shortest_of_each(rules), rules, thing)


def is_paper_by(shortest, rules, thing):
    if not isinstance(thing, list) or len(thing) == 0:
        return False
    clauses = [shortest[rule] for rule in rules]
    for place in range(len(thing)):
        if not is_line(clauses, thing, place):
            return False
    return thing[-1][-1] == ()


def is_line(clauses, lines, place):
    line = lines[place]
    if is_worded(line, "rule", 3):
        return is_number_below(line[1], len(clauses)) and is_clause(line[2]) and line[2] in clauses[line[1]]
    if not is_worded(line, "join", 5) or not is_name(line[3]) or not is_clause(line[4]):
        return False
    if not is_number_below(line[1], place) or not is_number_below(line[2], place):
        return False
    return is_joined(lines[line[1]][-1], lines[line[2]][-1], line[3], line[4])


def is_number_below(thing, bound):
    return is_whole_number(thing) and 0 <= thing < bound


def is_joined(one, other, name, clause):
    try:
        return joined(one, other, name) == clause
    except NoJoin:
        return False


def leaned_on(lines):
    met = {len(lines) - 1: True}
    numbers = []
    # A line is joined of such as stand ahead of it, so one walk from the end meets them all.
    for place in range(len(lines) - 1, -1, -1):
        line = lines[place]
        if place in met and line[0] == "rule":
            numbers.append(line[1])
        elif place in met:
            met[line[1]] = True
            met[line[2]] = True
    return set_of(numbers)
