"""Leaves, conditions, bounds and costs [112] to [116], the promise of costs [9], and [4] of them."""

import random
import unittest

from helper import Case, Growth, PlanGrowth, SIGNS, column, reader_of, rows_by, small_schema, value
from planstore.conditions import And, Not, Or
from planstore.costs import conds_of, cost_of, leaves_of, most_rows
from planstore.figures import Figures
from planstore.plain import plain_answer
from planstore.plans import (Along, Fetching, Firsts, Grouping, Matching, Narrow, Ordering, Pairing, Sift, Through)
from planstore.running import run_plan
from planstore.trees import Choose, First, Group, Keep, Product, Scan, Sort

PEOPLE = [(-2, "oslo", 30), (1, "bergen", 9), (3, "oslo", 12), (5, "oslo", 30), (7, "rome", 30)]
CITIES = [("bergen", 3), ("oslo", 9), ("paris", 9), ("rome", 1)]
P, Q, R, C, D = (Scan("people", "p"), Scan("people", "q"), Scan("people", "r"), Scan("cities", "c"),
                 Scan("cities", "d"))
THROUGH_P, THROUGH_C = Through("people", "p"), Through("cities", "c")
COUNT = ("count", None, "many")


OLD = value("p.age", ">", 11)
YOUNG = value("p.id", "<", 4)
OSLO = value("p.city", "=", "oslo")
LARGE = value("c.size", ">=", 9)
LIKE = column("p.city", "=", "c.name")
EKIL = column("c.name", "=", "p.city")


def told(things):
    return [thing.told() for thing in things]


class PartsTest(Case):
    def test_leaves(self):
        group = Group(["q.id"], [], Product(Q, D))
        for tree, leaves in ((P, [P]), (Choose(OLD, P), [P]), (Keep(["p.id"], Choose(OLD, P)), [P]),
                             (Product(P, C), [P, C]), (Product(C, Product(P, Q)), [C, P, Q]),
                             (Product(Product(C, P), Q), [C, P, Q]), (group, [group]), (Sort([("p.id", True)], P),) * 2,
                             (First(2, Product(P, C)),) * 2,
                             (Choose(LIKE, Product(Keep(["p.city"], Choose(OLD, P)), Product(group, C))), [P, group,
                                                                                                           C])):
            wanted = leaves if isinstance(leaves, list) else [leaves]
            self.same(told(leaves_of(tree)), told(wanted))

    def test_conditions(self):
        both = Or(OLD, YOUNG)
        for tree, conds in (
                (P, []), (Choose(OLD, P), [OLD]), (Choose(And(OLD, YOUNG), P), [OLD, YOUNG]),
                (Choose(And(And(OLD, YOUNG), And(OSLO, both)), P), [OLD, YOUNG, OSLO, both]),
                (Choose(Not(And(OLD, YOUNG)), P), [Not(And(OLD, YOUNG))]),
                (Choose(Or(And(OLD, YOUNG), OSLO), P), [Or(And(OLD, YOUNG), OSLO)]),
                (Choose(OLD, Choose(And(YOUNG, OSLO), P)), [OLD, YOUNG, OSLO]),
                (Keep(["p.id"], Choose(OLD, P)), [OLD]),
                (Choose(LIKE, Product(Choose(OLD, P), Keep(["c.name"], Choose(LARGE, C)))), [LIKE, OLD, LARGE]),
                (Product(Choose(LARGE, C), Choose(OLD, P)), [LARGE, OLD]),
                (Choose(OLD, First(2, Choose(YOUNG, P))), [OLD]), (First(2, Choose(YOUNG, P)), []),
                (Sort([("p.id", True)], Choose(YOUNG, P)), []), (Group([], [COUNT], Choose(YOUNG, P)), [])):
            self.same(told(conds_of(tree)), told(conds))

    def test_lists_told_are_the_askers_own(self):
        tree = Choose(And(OLD, LIKE), Product(P, C))
        leaves_of(tree).clear()
        conds_of(tree).clear()
        self.same(told(leaves_of(tree)), told([P, C]))
        self.same(told(conds_of(tree)), told([OLD, LIKE]))


class CostCase(Case):
    def setUp(self):
        self.schema = small_schema()
        self.read({"people": PEOPLE, "cities": CITIES})

    def read(self, rows):
        self.reader = reader_of(rows)
        self.figures = Figures(self.schema, self.reader)

    def bound(self, tree, wanted):
        before = tree.told()
        got = most_rows(tree, self.schema, self.figures)
        self.same(got, wanted)
        self.same(tree.told(), before)
        self.assertLessEqual(len(plain_answer(tree, self.schema, self.reader)[1]), got)

    def costs(self, plan, wanted):
        before = plan.told()
        got = cost_of(plan, self.schema, self.figures)
        self.same(got, wanted)
        self.same(plan.told(), before)
        self.assertLessEqual(run_plan(plan, self.schema, self.reader)[1], got)


class BoundTest(CostCase):
    def test_a_scan(self):
        self.bound(P, 5)
        self.bound(C, 4)

    def test_compares_with_values_by_each_sign(self):
        for sign, many in (("=", 3), ("<>", 2), ("<", 2), ("<=", 5), (">", 0), (">=", 3)):
            self.bound(Choose(value("p.age", sign, 30), P), many)
        for sign, many in (("=", 3), ("<>", 2), ("<", 1), ("<=", 4), (">", 1), (">=", 4)):
            self.bound(Choose(value("p.city", sign, "oslo"), P), many)

    def test_the_least_of_several(self):
        self.bound(Choose(And(OLD, YOUNG), P), 3)
        self.bound(Choose(OLD, Keep(["p.age", "p.city"], Choose(OSLO, P))), 3)
        self.bound(Choose(value("p.id", "=", 3), Choose(OLD, P)), 1)
        self.bound(Choose(value("p.id", "=", 4), Choose(OLD, P)), 0)

    def test_other_conditions_dont_count(self):
        self.bound(Choose(Or(value("p.id", "=", 3), value("p.id", "=", 4)), P), 5)
        self.bound(Choose(Not(value("p.id", "<>", 3)), P), 5)
        self.bound(Choose(column("p.id", "=", "p.age"), P), 5)
        self.bound(Choose(And(Or(OLD, OLD), YOUNG), P), 3)

    def test_compares_beneath_a_leaf_count_there_alone(self):
        self.bound(Choose(OLD, First(9, P)), 5)
        self.bound(First(9, Choose(OLD, P)), 4)
        self.bound(Choose(YOUNG, Sort([("p.id", True)], Choose(OLD, P))), 4)

    def test_groups(self):
        self.bound(Group([], [COUNT], P), 1)
        self.bound(Group([], [COUNT], Choose(value("p.id", "=", 4), P)), 0)
        self.bound(Group(["p.city"], [COUNT], P), 5)
        self.bound(Group(["p.city"], [], Choose(YOUNG, P)), 3)
        self.bound(Group(["p.city"], [], Product(P, C)), 20)
        self.bound(Choose(value("many", "=", 1), Group([], [COUNT], Product(P, C))), 1)

    def test_sorts_and_firsts(self):
        self.bound(Sort([("p.id", True)], Choose(YOUNG, P)), 3)
        self.bound(First(2, P), 2)
        self.bound(First(9, P), 5)
        self.bound(First(0, P), 0)
        self.bound(First(4, Sort([("p.id", True)], First(3, Product(P, C)))), 3)

    def test_products(self):
        self.bound(Product(P, C), 20)
        self.bound(Choose(OLD, Choose(LARGE, Product(P, C))), 8)
        self.bound(Product(First(2, P), Group([], [COUNT], C)), 2)
        self.bound(Product(Product(P, C), Q), 100)
        self.bound(Product(Choose(value("p.id", "=", 4), P), C), 0)

    def test_equalities_either_way_round(self):
        for cond in (LIKE, EKIL):
            self.bound(Choose(cond, Product(P, C)), 5)
            self.bound(Choose(cond, Product(C, P)), 5)
            self.bound(Choose(And(cond, OLD), Product(P, C)), 4)
        for sign in SIGNS[1:]:
            self.bound(Choose(column("p.city", sign, "c.name"), Product(P, C)), 20)
        self.bound(Choose(column("p.age", "=", "c.size"), Product(P, C)), 10)
        self.bound(Choose(column("c.size", "=", "p.age"), Product(P, Choose(LARGE, C))), 6)

    def test_several_equalities(self):
        tree = Choose(LIKE, Choose(column("p.age", "=", "c.size"), Product(P, C)))
        self.bound(tree, 5)
        tree = Choose(column("p.city", "=", "q.city"), Choose(column("q.age", "=", "p.age"), Product(P, Q)))
        self.bound(tree, 15)
        self.bound(Choose(column("p.id", "=", "q.id"), tree), 5)

    def test_equalities_with_leaves_that_are_no_scans(self):
        group = Group(["q.city"], [COUNT], Q)
        self.bound(Choose(column("q.city", "=", "p.city"), Product(P, group)), 15)
        self.bound(Choose(column("q.city", "=", "c.name"), Product(C, group)), 5)
        self.bound(Choose(column("q.city", "=", "c.name"), Product(First(9, C), group)), 20)
        self.bound(Choose(column("many", "=", "p.id"), Product(P, Group([], [COUNT], Q))), 1)

    def test_an_equality_within_a_leaf_or_with_a_leaf_that_is_not_there_yet(self):
        self.bound(Choose(column("p.id", "=", "p.age"), Product(P, C)), 20)
        tree = Choose(LIKE, Choose(column("p.id", "=", "q.id"), Product(Product(P, C), Q)))
        self.bound(tree, 5)
        self.bound(Choose(column("q.city", "=", "c.name"), Product(Product(P, C), Q)), 25)

    def test_a_weave_of_five_leaves(self):
        tree = Product(Product(Product(Product(P, C), Q), D), R)
        self.bound(Group([], [COUNT], Choose(column("p.id", "=", "r.id"), tree)), 1)
        for cond in (LIKE, column("q.city", "=", "d.name"), column("q.id", "=", "r.id"), column("r.age", "=", "p.age")):
            tree = Choose(cond, tree)
        self.bound(tree, 15)

    def test_tables_without_rows(self):
        self.read({"people": PEOPLE})
        self.bound(C, 0)
        self.bound(Product(P, C), 0)
        self.bound(Choose(LIKE, Product(P, C)), 0)
        self.bound(Group([], [COUNT], C), 0)
        self.bound(First(3, C), 0)

    def test_where_the_conditions_stand_and_in_which_order_doesnt_matter(self):
        trees = [Choose(LIKE, Choose(OLD, Choose(LARGE, Product(P, C)))),
                 Choose(And(LARGE, And(LIKE, OLD)), Product(C, P)),
                 Choose(EKIL, Product(Choose(OLD, P), Choose(LARGE, C))),
                 Keep(["c.name", "p.city"], Choose(LIKE, Product(Choose(LARGE, C), Keep(
                     ["p.city", "p.age"], Choose(OLD, P)))))]
        for tree in trees:
            self.bound(tree, 4)

    def test_figures_of_other_rows(self):
        other = Figures(self.schema, reader_of({"people": PEOPLE[:2], "cities": CITIES}))
        self.same(most_rows(Product(P, C), self.schema, other), 8)
        self.same(cost_of(Pairing(THROUGH_P, THROUGH_C), self.schema, other), 2 + 4 + 8)


class CostTest(CostCase):
    def test_through_and_along(self):
        self.costs(THROUGH_P, 5)
        self.costs(Along("people", "p", "id", None, None), 6)
        self.costs(Along("people", "p", "id", 3, None), 4)
        self.costs(Along("people", "p", "id", None, 1), 3)
        self.costs(Along("people", "p", "id", 3, 3), 2)
        self.costs(Along("people", "p", "age", 30, 30), 4)
        self.costs(Along("people", "p", "age", 10, 29), 2)
        self.costs(Along("people", "p", "id", 5, 1), 1)
        self.costs(Along("people", "p", "city", "c", "oslo"), 4)

    def test_sift_narrow_grouping(self):
        self.costs(Sift(OLD, THROUGH_P), 10)
        self.costs(Sift(YOUNG, Sift(OLD, THROUGH_P)), 14)
        self.costs(Narrow(["p.id"], Sift(OLD, THROUGH_P)), 14)
        self.costs(Grouping(["p.id"], [COUNT], THROUGH_P), 10)
        self.costs(Grouping([], [COUNT], Grouping([], [("count", None, "x")], THROUGH_P)), 11)
        self.costs(Sift(OLD, Along("people", "p", "age", 10, 29)), 2 + 2)
        self.costs(Sift(OLD, Along("people", "p", "age", 10, 12)), 2 + 2)

    def test_the_bound_of_a_part_is_that_of_its_reading(self):
        self.costs(Sift(OLD, Along("people", "p", "age", 12, 12)), 2 + 1)
        self.costs(Narrow(["p.id"], Along("people", "p", "id", 1, 5)), 4 + 4)

    def test_pairing(self):
        self.costs(Pairing(THROUGH_P, THROUGH_C), 5 + 4 + 20)
        self.costs(Pairing(Sift(OLD, THROUGH_P), THROUGH_C), 10 + 4 + 16)

    def test_matching(self):
        self.costs(Matching(THROUGH_P, THROUGH_C, [("p.city", "c.name")]), 5 + 4 + 5 + 4 + 5)
        self.costs(Matching(THROUGH_C, THROUGH_P, [("c.size", "p.age")]), 9 + 9 + 10)
        self.costs(Matching(Sift(OLD, THROUGH_P), THROUGH_C, [("p.city", "c.name")]), 10 + 4 + 4 + 4 + 4)

    def test_fetching(self):
        self.costs(Fetching(THROUGH_P, "cities", "c", "name", "p.city"), 5 + 5 + 5)
        self.costs(Fetching(THROUGH_C, "people", "p", "age", "c.size"), 4 + 4 + 10)
        self.costs(Fetching(Sift(LARGE, THROUGH_C), "people", "p", "city", "c.name"), 8 + 2 + 5)

    def test_ordering_and_firsts(self):
        self.costs(Ordering([("p.id", True)], Sift(OLD, THROUGH_P)), 10)
        self.costs(Firsts(0, Sift(OLD, THROUGH_P)), 10)
        self.costs(Sift(OLD, Firsts(2, THROUGH_P)), 5 + 2)

    def test_tables_without_rows(self):
        self.read({})
        self.costs(THROUGH_P, 0)
        self.costs(Along("people", "p", "id", None, None), 1)
        self.costs(Matching(THROUGH_P, THROUGH_C, [("p.city", "c.name")]), 0)
        self.costs(Fetching(Along("people", "p", "id", 1, 1), "cities", "c", "name", "p.city"), 1)


class ByChanceTest(CostCase):
    def own(self, leaf, conds):
        kind = leaf.told()[0]
        if kind == "scan":
            numbers = [self.figures.count(leaf.table)]
            names = dict(leaf.columns_told(self.schema))
            for word in [cond.told() for cond in conds]:
                if word[0] == "compare" and word[3][0] == "value" and word[1] in names:
                    numbers.append(self.figures.meeting(leaf.table, word[1].split(".")[1], word[2], word[3][1]))
            return min(numbers)
        beneath = self.reckoned(leaf.parts()[0])
        if kind == "first":
            return min(leaf.many, beneath)
        return min(1, beneath) if kind == "group" and not leaf.by else beneath

    def fan(self, leaf, others, conds):
        numbers = [self.own(leaf, conds)]
        names = [name for name, kind in leaf.columns_told(self.schema)]
        beside = [name for other in others for name, kind in other.columns_told(self.schema)]
        for cond in conds:
            word = cond.told()
            if leaf.told()[0] == "scan" and word[0] == "compare" and word[2] == "=" and word[3][0] == "column":
                for one, other in ((word[1], word[3][1]), (word[3][1], word[1])):
                    if one in names and other in beside:
                        numbers.append(self.figures.most_of(leaf.table, one.split(".")[1]))
        return min(numbers)

    def of_set(self, leaves, conds):
        if len(leaves) == 1:
            return self.own(leaves[0], conds)
        numbers = []
        for place, leaf in enumerate(leaves):
            others = leaves[:place] + leaves[place + 1:]
            numbers.append(self.of_set(others, conds) * self.fan(leaf, others, conds))
        return min(numbers)

    def reckoned(self, tree):
        """The bound of a tree, set by set as told."""
        return self.of_set(leaves_of(tree), conds_of(tree))

    def nodes(self, tree):
        return [tree] + [node for part in tree.parts() for node in self.nodes(part)]

    def test_bounds_of_each_node(self):
        chance = random.Random(4)
        close = 0
        for turn in range(250):
            self.read(rows_by(chance))
            growth = Growth(chance, 4)
            tree = growth.tree(6)
            for more in range(chance.randrange(4)):
                names = growth.columns(tree)
                name, kind = chance.choice(names)
                others = [other for other, of_kind in names if of_kind == kind]
                tree = Choose(column(name, "=", chance.choice(others)), tree)
            for node in self.nodes(tree):
                wanted = self.reckoned(node)
                self.bound(node, wanted)
                close += len(plain_answer(node, self.schema, self.reader)[1]) == wanted > 0
        self.assertGreater(close, 300)

    def reckoned_cost(self, plan):
        word = plan.told()[0]
        if word == "through":
            return self.figures.count(plan.table)
        if word == "along":
            return self.figures.between(plan.table, plan.column, plan.low, plan.high) + 1
        beneath = sum(self.reckoned_cost(part) for part in plan.parts())
        bounds = [self.reckoned(part.reading()) for part in plan.parts()]
        if word in ("sift", "narrow", "grouping"):
            return beneath + bounds[0]
        if word == "pairing":
            return beneath + bounds[0] * bounds[1]
        if word in ("matching", "fetching"):
            return beneath + sum(bounds) + self.reckoned(plan.reading())
        return beneath

    def test_costs(self):
        chance = random.Random(6)
        for turn in range(300):
            self.read(rows_by(chance))
            plan = PlanGrowth(chance, 4).plan(6)
            self.costs(plan, self.reckoned_cost(plan))


if __name__ == "__main__":
    unittest.main()
