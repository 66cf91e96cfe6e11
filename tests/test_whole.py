"""The interface by its names, and [1] to [4] over the whole program."""

import importlib
import inspect
import random
import unittest

from helper import all_parts, plain_crossings, plain_truth, random_saying, strays_of
from truceroll.clauses import joined
from truceroll.crossings import crossings_of
from truceroll.desk import Desk
from truceroll.hall import Hall
from truceroll.parting import parting_of
from truceroll.readers import is_clash_paper, is_peace_paper
from truceroll.sets import others_of
from truceroll.shortest import shortest_of
from truceroll.signs import read_set, show_family, show_set
from truceroll.sounding import sounded
from truceroll.truces import Truce
from truceroll.weights import cheapest_truce, is_cost_tree, peaceful_many
from truceroll.words import show_rule

FUNCTIONS = """
rules: is_name(thing) is_rule(thing) names_of(rule)
facts: holds(rule,facts) all_facts(names)
words: show_rule(rule) read_rule(text)
clauses: is_clause(thing) clauses_in_order(clauses) is_clause_part(one,other) clause_of(literals) left_of(clause,facts)
clauses: joined(one,other,name)
shortest: follows(rule,clause) shortest_of(rule)
solver: answer(rules)
papers: is_paper(rules,thing) leaned_on(lines)
sets: is_set(thing) set_of(numbers) is_part(one,other) in_order(family) least_of(family) greatest_of(family)
sets: others_of(whole,family)
crossings: crossings_of(family) without(family,number) freed(family,number)
trees: is_tree(whole,clashes,peaces,thing) tree_of(whole,clashes,peaces)
asking: grown(whole,ask,part) shrunk(ask,part)
sounding: sounded(whole,ask)
heaps: heap_of(thing)
readers: is_clash_paper(firm,heap,part,thing) is_peace_paper(firm,heap,part,thing)
reasons: reasons_for(firm,heap,wish) retreats_from(firm,heap,wish) standing_of(firm,heap,wish)
weights: blames_of(clashes) peaceful_many(whole,peaces) cheapest_truce(weights,clashes)
weights: is_cost_tree(weights,clashes,cost,thing)
parting: parting_of(one,other)
signs: show_set(part) show_family(family) read_set(text) read_number(text)
"""
CLASSES = """
truces: Truce(firm,heap) labels() clashes() peaces() is_peaceful(part) clash_paper(part) peace_paper(part) tree()
hall: Hall() say(label,rule) unsay(label) fix(label) free(label) loose() firm() rule_at(label) clashes() peaces()
hall: Hall() is_peaceful(part) clash_paper(part) peace_paper(part) tree() reasons_for(wish) retreats_from(wish)
hall: Hall() standing_of(wish)
desk: Desk() say(row)
"""


def parsed(text):
    for row in text.strip().split("\n"):
        module, names = row.split(": ")
        yield importlib.import_module("truceroll." + module), [name.rstrip(")").split("(") for name in names.split(" ")]


def parameters_of(thing):
    return ",".join(inspect.signature(thing).parameters)


class Interface(unittest.TestCase):
    def test_functions(self):
        for module, names in parsed(FUNCTIONS):
            for name, parameters in names:
                self.assertTrue(inspect.isfunction(getattr(module, name)), name)
                self.assertEqual(parameters_of(getattr(module, name)), parameters, name)

    def test_classes(self):
        for module, ((name, parameters), *methods) in parsed(CLASSES):
            made = getattr(module, name)
            self.assertTrue(inspect.isclass(made), name)
            self.assertEqual(parameters_of(made), parameters, name)
            for method, parameters in methods:
                self.assertEqual(parameters_of(getattr(made, method)), ",".join(filter(None, ["self", parameters])))


class Whole(unittest.TestCase):
    def halls(self, seed, many):
        """Halls behind some deeds, each with its firm rules and its heap."""
        chance = random.Random(seed)
        for _ in range(many):
            hall, rules = Hall(), {}
            for label in chance.sample(range(1, 30), chance.randint(1, 7)):
                rules[label] = random_saying(chance, list("abcd"))
                hall.say(label, rules[label])
            for label in chance.sample(sorted(rules), min(len(rules), chance.randint(0, 2))):
                hall.fix(label)
            yield (hall, [rules[label] for label in hall.firm()], [(label, rules[label]) for label in hall.loose()])

    def test_each_set_has_its_facts_or_its_steps(self):
        for hall, firm, heap in self.halls(4, 30):
            clashes = {part: hall.clash_paper(part) for part in hall.clashes()}
            peaces = {part: hall.peace_paper(part) for part in hall.peaces()}
            for part, paper in clashes.items():
                self.assertIs(is_clash_paper(firm, heap, part, paper), True)
                self.check_steps(firm + [rule for label, rule in heap if label in part], paper[0])
            for part, paper in peaces.items():
                self.assertIs(is_peace_paper(firm, heap, part, paper), True)
            for part in all_parts(hall.loose()):
                rules = firm + [rule for label, rule in heap if label in part]
                lies = [peace for peace in peaces if set(part) <= set(peace)]
                holds = [clash for clash in clashes if set(clash) <= set(part)]
                self.assertNotEqual(lies == [], holds == [])
                for peace in lies:
                    self.assertTrue(all(plain_truth(rule, peaces[peace][0]) for rule in rules))
            self.assertEqual(strays_of(hall.loose(), list(clashes), list(peaces), hall.tree()), [])

    def check_steps(self, rules, lines):
        for line in lines:
            if line[0] == "rule":
                self.assertIn(line[2], shortest_of(rules[line[1]]))
            else:
                self.assertEqual(joined(lines[line[1]][-1], lines[line[2]][-1], line[3]), line[4])
        self.assertEqual(lines[-1][-1], ())

    def test_what_the_lists_have_to_do_with_one_another(self):
        for hall, firm, heap in self.halls(5, 40):
            labels, clashes, peaces = hall.loose(), hall.clashes(), hall.peaces()
            self.assertEqual(others_of(labels, peaces), crossings_of(clashes))
            self.assertEqual(crossings_of(others_of(labels, peaces)), clashes)
            told = sounded(labels, lambda part: hall.is_peaceful(part))
            self.assertEqual(told[:2], (clashes, peaces))
            self.assertLessEqual(len(told[2]), (len(labels) + 1) * len(clashes + peaces))
            self.assertEqual(parting_of(Truce(firm, heap), Truce(firm[::-1], heap[::-1])), ("alike",))
            self.assertEqual(peaceful_many(labels, peaces), sum(map(hall.is_peaceful, all_parts(labels))))
            for wish in [("is", "a"), ("not", ("is", "b")), ("no",)]:
                self.assertEqual(hall.retreats_from(wish), plain_crossings(hall.reasons_for(wish)))
            if () not in clashes:
                weights = {label: label % 4 for label in labels}
                cost, part, tree = cheapest_truce(weights, clashes)
                self.assertIn(part, others_of(labels, peaces))
                self.assertIs(is_cost_tree(weights, clashes, cost, tree), True)

    def test_a_desk_tells_what_its_hall_would(self):
        for hall, firm, heap in self.halls(6, 25):
            desk = Desk()
            rules = dict(heap) | dict(zip(hall.firm(), firm))
            for label, rule in rules.items():
                desk.say(f"say {label} {show_rule(rule)}")
            for label in hall.firm():
                desk.say(f"fix {label}")
            self.assertEqual(read_set(desk.say("loose")), hall.loose())
            self.assertEqual(desk.say("firm"), show_set(hall.firm()))
            for row, family in [("clashes", hall.clashes()), ("peaces", hall.peaces()),
                                ("reasons is a", hall.reasons_for(("is", "a")))]:
                word = row.split(" ")[0]
                self.assertEqual(desk.say(row), f"{word} {show_family(family)}" if family else word)


if __name__ == "__main__":
    unittest.main()
