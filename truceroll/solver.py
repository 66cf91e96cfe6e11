"""Some rules answered: the first facts under which all of them hold, or a paper that there are none."""

from truceroll.clauses import joined
from truceroll.facts import with_fact
from truceroll.rules import names_of_all
from truceroll.shortest import shortest_of_each


def answer(rules):
    return answer_by(shortest_of_each(rules), rules)


def answer_by(shortest, rules):
    # Who asks about several heaps of the same rules finds their shortest clauses once and hands them in.
    search = Search(shortest, rules)
    found = search.found_from({})
    if found[0] == "peace":
        return found
    return ("clash", lines_of(search.origins))


class Search:
    # Facts are tried in their order, name by name. Each way that ends tells a clause that stands against it, and
    # two such clauses are joined into one that stands against both their ways, until nothing is left of it.

    def __init__(self, shortest, rules):
        self.names = names_of_all(rules)
        self.origins = {}
        self.known = {}
        for number, rule in enumerate(rules):
            for clause in shortest[rule]:
                self.learn(clause, ("rule", number))

    def learn(self, clause, origin):
        if clause in self.origins:
            return
        self.origins[clause] = origin
        self.known.setdefault(last_name(clause), []).append(clause)

    def found_from(self, facts):
        # Tells the first facts for all names that begin with these, or a clause that stands against these.
        against = self.clause_against(facts)
        if against is not None:
            return ("clash", against)
        if len(facts) == len(self.names):
            return ("peace", facts)
        name = self.names[len(facts)]
        low = self.found_from(with_fact(facts, name, False))
        if low[0] == "peace" or (name, True) not in low[1]:
            return low
        high = self.found_from(with_fact(facts, name, True))
        if high[0] == "peace" or (name, False) not in high[1]:
            return high
        clause = joined(low[1], high[1], name)
        self.learn(clause, ("join", low[1], high[1], name))
        return ("clash", clause)

    def clause_against(self, facts):
        # Names come in order, so a clause can first stand against facts when its last name has come.
        last = self.names[len(facts) - 1] if len(facts) > 0 else ""
        for clause in self.known.get(last, []):
            if stands_against(clause, facts):
                return clause
        return None


def last_name(clause):
    return clause[-1][0] if len(clause) > 0 else ""


def stands_against(clause, facts):
    for name, truth in clause:
        if facts[name] == truth:
            return False
    return True


def lines_of(origins):
    needed = needed_for_nothing(origins)
    lines = []
    numbers = {}
    for clause, origin in origins.items():
        if clause in needed:
            numbers[clause] = len(lines)
            lines.append(line_of(clause, origin, numbers))
    return lines


def needed_for_nothing(origins):
    # Clauses come behind those they are joined of, so one walk from the end meets all that () leans on.
    needed = {(): True}
    for clause in reversed(list(origins)):
        origin = origins[clause]
        if clause in needed and origin[0] == "join":
            needed[origin[1]] = True
            needed[origin[2]] = True
    return needed


def line_of(clause, origin, numbers):
    if origin[0] == "rule":
        return ("rule", origin[1], clause)
    return ("join", numbers[origin[1]], numbers[origin[2]], origin[3], clause)
