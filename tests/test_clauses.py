"""[9], [10], [11]: clauses, their order, their parts, and what comes of them."""

import itertools
import random
import unittest

from helper import clause_holds, clauses_over, plain_facts, things_of_other_kinds
from truceroll.clauses import clause_of, clauses_in_order, is_clause, is_clause_part, joined, left_of
from truceroll.errors import NoJoin

T, F = True, False


class IsClause(unittest.TestCase):
    def test_clauses(self):
        for clause in [(), (("a", T),), (("a", F),), (("a", T), ("b", F)), (("a", T), ("aa", T), ("b", T)),
                       (("is", F), ("not", T), ("yes", F)), (("abcdefgh", T),)]:
            self.assertIs(is_clause(clause), True, clause)

    def test_many_literals(self):
        names = ["".join(pair) for pair in itertools.product("abcdefghijklmnopqrstuvwxyz", repeat=2)]
        clause = tuple((name, T) for name in names)
        self.assertIs(is_clause(clause), True)
        self.assertIs(is_clause(clause + (("a", T),)), False)
        self.assertIs(is_clause(clause[1:] + clause[:1]), False)

    def test_two_the_wrong_way_round(self):
        for clause in [(("b", T), ("a", T)), (("b", F), ("a", T)), (("aa", T), ("a", T)), (("b", T), ("aa", T)),
                       (("a", T), ("c", T), ("b", T)), (("b", T), ("a", T), ("c", T))]:
            self.assertIs(is_clause(clause), False, clause)

    def test_a_name_twice(self):
        for clause in [(("a", T), ("a", T)), (("a", F), ("a", F)), (("a", F), ("a", T)), (("a", T), ("a", F)),
                       (("a", T), ("b", F), ("b", T)), (("a", T), ("b", F), ("a", T))]:
            self.assertIs(is_clause(clause), False, clause)

    def test_truths_that_are_none(self):
        for truth in [1, 0, 1.0, None, "True", "", (), (T,), [], [T]]:
            self.assertIs(is_clause((("a", truth),)), False, truth)
            self.assertIs(is_clause((("a", T), ("b", truth))), False, truth)

    def test_names_that_are_none(self):
        for name in ["", "A", "a ", "abcdefghi", "1", 1, None, True, ("a",), ["a"]]:
            self.assertIs(is_clause(((name, T),)), False, name)
            self.assertIs(is_clause((("a", T), (name, T))), False, name)

    def test_lists_in_the_place_of_tuples(self):
        for thing in [[], [("a", T)], (["a", T],), (("a", T), ["b", T]), [["a", T]]]:
            self.assertIs(is_clause(thing), False, thing)

    def test_literals_of_another_length(self):
        for thing in [((),), (("a",),), (("a", T, T),), (("a", T), ()), ("a", T), ("a",), (T,), ("ab",)]:
            self.assertIs(is_clause(thing), False, thing)

    def test_other_kinds_at_the_top_and_inside(self):
        for thing in things_of_other_kinds():
            for clause in [thing, (thing,), (("a", T), thing), ((thing, T),), ((thing, thing),), (thing, thing)]:
                self.assertIs(is_clause(clause), False)
            if not isinstance(thing, bool):
                self.assertIs(is_clause((("a", thing),)), False)
        for text in ["", "a", "clause"]:
            self.assertIs(is_clause(text), False)

    def test_nested_far(self):
        thing = ()
        for _ in range(100000):
            thing = (thing,)
        self.assertIs(is_clause(thing), False)
        self.assertIs(is_clause(((thing, T), ("a", thing))), False)


class Order(unittest.TestCase):
    def test_in_order_and_each_once(self):
        right = [(), (("a", F),), (("a", T),), (("aa", F),), (("b", F),), (("b", T),),
                 (("a", F), ("b", T)), (("a", F), ("c", F)), (("a", T), ("b", F)), (("aa", T), ("b", F)),
                 (("a", F), ("b", F), ("c", T)), (("a", F), ("b", T), ("c", F))]
        self.assertEqual(clauses_in_order(right), right)
        self.assertEqual(clauses_in_order(right[::-1]), right)
        self.assertEqual(clauses_in_order(right[5:] + right + right[:7]), right)
        self.assertEqual(clauses_in_order([]), [])
        self.assertEqual(clauses_in_order([(), ()]), [()])

    def test_all_over_four_names(self):
        names = ["a", "aa", "b", "c"]
        clauses = clauses_over(names)
        told = clauses_in_order(clauses)
        self.assertEqual(len(told), 81)
        self.assertEqual(set(told), set(clauses))
        for one, other in itertools.combinations(told, 2):
            if len(one) == len(other):
                place = [one[k] == other[k] for k in range(len(one))].index(False)
                self.assertTrue(one[place][0] < other[place][0]
                                or one[place][0] == other[place][0] and other[place][1])
            else:
                self.assertLess(len(one), len(other))

    def test_the_list_stays_and_the_told_one_is_the_askers_own(self):
        clauses = [(("b", T),), (), (("a", F),), ()]
        told = clauses_in_order(clauses)
        self.assertEqual(clauses, [(("b", T),), (), (("a", F),), ()])
        told.clear()
        self.assertEqual(clauses_in_order(clauses), [(), (("a", F),), (("b", T),)])
        sorted_one = [(), (("a", F),)]
        clauses_in_order(sorted_one).append(())
        self.assertEqual(sorted_one, [(), (("a", F),)])


class Parts(unittest.TestCase):
    def test_parts_both_ways(self):
        one, other = (("a", T),), (("a", T), ("b", F))
        self.assertIs(is_clause_part(one, other), True)
        self.assertIs(is_clause_part(other, one), False)
        self.assertIs(is_clause_part((("b", T),), other), False)
        self.assertIs(is_clause_part((("b", F),), other), True)
        self.assertIs(is_clause_part((), ()), True)
        self.assertIs(is_clause_part((), other), True)
        self.assertIs(is_clause_part(other, ()), False)
        self.assertIs(is_clause_part(other, other), True)

    def test_all_over_three_names(self):
        clauses = clauses_over(["a", "b", "c"])
        for one in clauses:
            for other in clauses:
                self.assertIs(is_clause_part(one, other), set(one) <= set(other))


class ClauseOf(unittest.TestCase):
    def test_any_row_and_some_twice(self):
        self.assertEqual(clause_of([]), ())
        self.assertEqual(clause_of([("a", F)]), (("a", F),))
        self.assertEqual(clause_of([("b", T), ("aa", F), ("a", T)]), (("a", T), ("aa", F), ("b", T)))
        self.assertEqual(clause_of([("b", T), ("a", F), ("b", T), ("b", T)]), (("a", F), ("b", T)))

    def test_both_truths_of_a_name(self):
        for literals in [[("a", T), ("a", F)], [("a", F), ("a", T)], [("a", F), ("b", T), ("a", T)],
                         [("b", T), ("a", F), ("c", F), ("b", T), ("b", F)]]:
            self.assertIsNone(clause_of(literals))

    def test_it_holds_just_where_one_of_them_does(self):
        chance = random.Random(6)
        for _ in range(400):
            literals = [(chance.choice("abcde"), chance.random() < 0.7) for _ in range(chance.randint(0, 7))]
            told = clause_of(literals)
            rows = plain_facts("abcde")
            if told is None:
                self.assertTrue(all(clause_holds(literals, facts) for facts in rows))
            else:
                self.assertIs(is_clause(told), True)
                self.assertEqual([clause_holds(told, facts) for facts in rows],
                                 [clause_holds(literals, facts) for facts in rows])

    def test_the_list_stays(self):
        literals = [("b", T), ("a", F), ("b", T)]
        told = clause_of(literals)
        self.assertEqual(literals, [("b", T), ("a", F), ("b", T)])
        literals.clear()
        self.assertEqual(told, (("a", F), ("b", T)))


class LeftOf(unittest.TestCase):
    def test_what_facts_leave(self):
        clause = (("a", T), ("b", F), ("c", T))
        for facts, left in [
                ({}, clause), ({"z": T, "aa": F}, clause), ({"a": F}, (("b", F), ("c", T))),
                ({"b": T}, (("a", T), ("c", T))), ({"c": F, "a": F}, (("b", F),)), ({"a": T}, None), ({"b": F}, None),
                ({"a": F, "b": T, "c": T}, None), ({"a": F, "b": T, "c": F}, ()),
                ({"a": F, "b": T, "c": F, "d": T}, ()), ({"a": F, "c": T}, None), ({"z": T, "b": T, "a": T}, None)]:
            self.assertEqual(left_of(clause, facts), left, facts)

    def test_nothing_of_the_one_without_literals(self):
        self.assertEqual(left_of((), {}), ())
        self.assertEqual(left_of((), {"a": T}), ())

    def test_all_over_three_names(self):
        for clause in clauses_over("abc"):
            for truths in itertools.product((None, F, T), repeat=4):
                facts = {name: truth for name, truth in zip("dcba", truths) if truth is not None}
                left = left_of(clause, facts)
                if any(facts.get(name) is truth for name, truth in clause):
                    self.assertIsNone(left)
                else:
                    self.assertEqual(left, tuple(literal for literal in clause if literal[0] not in facts))

    def test_the_facts_stay(self):
        facts = {"b": T, "a": F}
        left_of((("a", T), ("b", F), ("c", F)), facts)
        left_of((("a", F), ("d", F)), facts)
        self.assertEqual(list(facts.items()), [("b", T), ("a", F)])


class Joined(unittest.TestCase):
    def test_a_clause(self):
        self.assertEqual(joined((("a", T),), (("a", F),), "a"), ())
        self.assertEqual(joined((("a", T), ("b", T)), (("a", F), ("c", F)), "a"), (("b", T), ("c", F)))
        self.assertEqual(joined((("b", T), ("c", F)), (("a", T), ("b", F)), "b"), (("a", T), ("c", F)))
        self.assertEqual(joined((("a", T), ("b", T)), (("a", F), ("b", T)), "a"), (("b", T),))

    def test_none(self):
        self.assertIsNone(joined((("a", T), ("b", T)), (("a", F), ("b", F)), "a"))
        self.assertIsNone(joined((("a", F), ("b", T)), (("a", T), ("b", F)), "b"))
        self.assertIsNone(joined((("a", F), ("b", T), ("c", T)), (("b", F), ("c", F), ("d", T)), "b"))

    def test_refused_where_either_literal_is_lacking(self):
        a, na = (("a", T), ("c", T)), (("a", F), ("c", T))
        for one, other, name in [(na, a, "a"), (a, a, "a"), (na, na, "a"), ((), na, "a"), (a, (), "a"), ((), (), "a"),
                                 (a, na, "b"), (a, na, "c"), ((("c", F),), a, "c"), (a, na, "aa")]:
            with self.assertRaises(NoJoin) as taken:
                joined(one, other, name)
            self.assertEqual(taken.exception.name, name)

    def test_refused_also_where_none_would_be_told(self):
        one, other = (("a", T), ("b", T)), (("a", T), ("b", F))
        with self.assertRaises(NoJoin) as taken:
            joined(one, other, "a")
        self.assertEqual(taken.exception.name, "a")

    def test_all_over_three_names(self):
        clauses = clauses_over("abc")
        rows = plain_facts("abc")
        for one in clauses:
            for other in clauses:
                if ("b", T) in one and ("b", F) in other:
                    rest = (set(one) | set(other)) - {("b", T), ("b", F)}
                    told = joined(one, other, "b")
                    if len({name for name, truth in rest}) < len(rest):
                        self.assertIsNone(told)
                    else:
                        self.assertEqual(told, tuple(sorted(rest)))
                        for facts in rows:
                            if clause_holds(one, facts) and clause_holds(other, facts):
                                self.assertTrue(clause_holds(told, facts))
                else:
                    self.assertRaises(NoJoin, joined, one, other, "b")


if __name__ == "__main__":
    unittest.main()
