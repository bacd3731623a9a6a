"""The cheapest plan of a weave [121] to [126], the promise of costs [9], and [4] of them."""

import itertools
import random
import unittest

from helper import AlikeToAll, Case, ODD_THINGS, PlanGrowth, SIGNS, column, reader_of, rows_by, small_schema, value
from planstore.conditions import And, Not, Or
from planstore.costs import cost_of
from planstore.figures import Figures
from planstore.least import Weave, accesses, cost_by, least_table, plan_by, table_holds, ways_for
from planstore.plain import plain_answer
from planstore.plans import (Along, Fetching, Firsts, Grouping, Matching, Ordering, Pairing, Sift, Through, need_plan)
from planstore.running import run_plan
from planstore.trees import Choose, Product, Scan, Sort, leaves_beneath

ROWS = {
    "people": [(-2, "oslo", 30), (1, "bergen", 9), (3, "oslo", 12), (5, "oslo", 30), (7, "rome", 30)],
    "cities": [("bergen", 3), ("oslo", 9), ("paris", 9), ("rome", 1)],
}
P, Q, C, D = Scan("people", "p"), Scan("people", "q"), Scan("cities", "c"), Scan("cities", "d")
THROUGH = {"p": Through("people", "p"), "q": Through("people", "q"), "c": Through("cities", "c"),
           "d": Through("cities", "d")}
COUNT = ("count", None, "many")
MADE = Grouping(["q.city"], [COUNT], THROUGH["q"])


OLD = value("p.age", ">=", 12)
OSLO = value("p.city", "=", "oslo")
LIKE = column("p.city", "=", "c.name")
SIZE = column("c.size", "=", "p.age")
KEYS = column("p.id", "=", "q.id")


class LeastCase(Case):
    def setUp(self):
        self.schema = small_schema()
        self.read(ROWS)

    def read(self, rows):
        self.reader = reader_of(rows)
        self.figures = Figures(self.schema, self.reader)

    def weave(self, leaves, conds, made=None):
        return Weave(self.schema, leaves, conds, made or {})


class WeaveTest(LeastCase):
    def test_values(self):
        leaves, conds, made = [P, MADE.reading()], [OLD], {1: MADE}
        weave = self.weave(leaves, conds, made)
        self.assertEqual((weave.leaves, weave.conds, weave.made), (leaves, conds, made))
        self.assertEqual((type(weave.leaves), type(weave.conds), type(weave.made)), (list, list, dict))

    def test_what_is_changed_behind(self):
        leaves, conds, made = [P, MADE.reading()], [OLD, column("p.city", "=", "q.city")], {1: MADE}
        weave = self.weave(leaves, conds, made)
        table = least_table(weave, self.figures)
        ways = [ways_for(weave, mask) for mask in (1, 2, 3)]
        text = plan_by(weave, table, 3).text()
        leaves.clear()
        conds.clear()
        made.clear()
        self.same((len(weave.leaves), len(weave.conds), len(weave.made)), (2, 2, 1))
        self.same(least_table(weave, self.figures), table)
        self.same([ways_for(weave, mask) for mask in (1, 2, 3)], ways)
        self.same(plan_by(weave, table, 3).text(), text)

    def test_what_is_told_is_the_askers_own(self):
        weave = self.weave([P, C], [LIKE, OLD])
        table = least_table(weave, self.figures)
        wanted = dict(table)
        accesses(weave, 0).clear()
        ways_for(weave, 3).clear()
        least_table(weave, self.figures).clear()
        self.same(accesses(weave, 0), [("through",), ("along", 1)])
        self.same(ways_for(weave, 3)[0], ("pairing", 1, 2))
        self.same(least_table(weave, self.figures), wanted)
        plan_by(weave, table, 3)
        cost_by(weave, table, 3, ("pairing", 1, 2), self.figures)
        table_holds(weave, table, self.figures)
        self.same(table, wanted)


class WaysTest(LeastCase):
    def test_a_scan_alone(self):
        weave = self.weave([P], [])
        self.same(accesses(weave, 0), [("through",)])
        self.same(ways_for(weave, 1), [("through",)])

    def test_alongs_by_each_sign(self):
        for sign in SIGNS:
            weave = self.weave([P], [value("p.age", sign, 9)])
            along = [("along", 0)] if sign in ("=", "<=", ">=") else []
            self.same(accesses(weave, 0), [("through",)] + along)

    def test_columns_with_and_without_an_order(self):
        for leaf, name, wanted in ((P, "p.id", True), (P, "p.age", True), (C, "c.size", False)):
            weave = self.weave([leaf], [value(name, "=", 9)])
            self.same(accesses(weave, 0), [("through",), ("along", 0)] if wanted else [("through",)])
        for leaf, name in ((P, "p.city"), (C, "c.name")):
            self.same(accesses(self.weave([leaf], [value(name, "<=", "b")]), 0), [("through",), ("along", 0)])

    def test_alongs_by_rising_numbers(self):
        conds = [LIKE, OSLO, value("c.name", ">=", "a"), value("p.id", "<", 3), OLD, And(OLD, OSLO), Or(OLD, OLD),
                 Not(OLD), value("p.id", "<=", 3), OLD]
        weave = self.weave([P, C], conds)
        self.same(accesses(weave, 0), [("through",), ("along", 1), ("along", 4), ("along", 8), ("along", 9)])
        self.same(accesses(weave, 1), [("through",), ("along", 2)])
        self.same([ways_for(weave, 1), ways_for(weave, 2)], [accesses(weave, 0), accesses(weave, 1)])

    def test_a_compare_with_a_column_is_no_along(self):
        self.same(accesses(self.weave([P], [column("p.id", "=", "p.age")]), 0), [("through",)])

    def test_leaves_that_are_no_scans(self):
        for made in (MADE, Ordering([("q.id", True)], THROUGH["q"]), Firsts(2, THROUGH["q"])):
            weave = self.weave([made.reading(), P], [value("q.city", "=", "a")], {0: made})
            self.same(accesses(weave, 0), [("made",)])
            self.same(ways_for(weave, 1), [("made",)])

    def test_two_leaves(self):
        self.same(ways_for(self.weave([P, C], []), 3), [("pairing", 1, 2), ("pairing", 2, 1)])
        self.same(ways_for(self.weave([P, C], [LIKE]), 3), [
            ("pairing", 1, 2), ("matching", 1, 2), ("fetching", 1, 0), ("pairing", 2, 1), ("matching", 2, 1),
            ("fetching", 2, 0)])
        self.same(ways_for(self.weave([P, C], [SIZE]), 3), [
            ("pairing", 1, 2), ("matching", 1, 2), ("pairing", 2, 1), ("matching", 2, 1), ("fetching", 2, 0)])

    def test_equalities_either_way_round_and_several(self):
        mirror = column("c.name", "=", "p.city")
        for conds in ([LIKE, OLD, mirror, SIZE], [mirror, OLD, LIKE, SIZE]):
            self.same(ways_for(self.weave([P, C], conds), 3), [
                ("pairing", 1, 2), ("matching", 1, 2), ("fetching", 1, 0), ("fetching", 1, 2), ("pairing", 2, 1),
                ("matching", 2, 1), ("fetching", 2, 0), ("fetching", 2, 2), ("fetching", 2, 3)])

    def test_what_is_no_equality(self):
        only_pairings = [("pairing", 1, 2), ("pairing", 2, 1)]
        for cond in [column("p.city", sign, "c.name") for sign in SIGNS[1:]] + [
                OSLO, column("p.id", "=", "p.age"), And(LIKE, LIKE), Or(LIKE, LIKE), Not(LIKE),
                Not(column("p.city", "<>", "c.name"))]:
            self.same(ways_for(self.weave([P, C], [cond]), 3), only_pairings)

    def test_leaves_that_are_no_scans_are_not_fetched(self):
        weave = self.weave([P, MADE.reading()], [column("p.city", "=", "q.city")], {1: MADE})
        self.same(ways_for(weave, 3), [("pairing", 1, 2), ("matching", 1, 2), ("pairing", 2, 1), ("matching", 2, 1),
                                       ("fetching", 2, 0)])

    def test_three_leaves(self):
        weave = self.weave([P, C, Q], [LIKE, KEYS])
        self.same(ways_for(weave, 7), [
            ("pairing", 1, 6), ("matching", 1, 6),
            ("pairing", 2, 5), ("matching", 2, 5),
            ("pairing", 3, 4), ("matching", 3, 4), ("fetching", 3, 1),
            ("pairing", 4, 3), ("matching", 4, 3),
            ("pairing", 5, 2), ("matching", 5, 2), ("fetching", 5, 0),
            ("pairing", 6, 1), ("matching", 6, 1), ("fetching", 6, 0), ("fetching", 6, 1)])
        self.same(ways_for(weave, 6), [("pairing", 2, 4), ("pairing", 4, 2)])
        self.same(ways_for(weave, 5), [("pairing", 1, 4), ("matching", 1, 4), ("fetching", 1, 1), ("pairing", 4, 1),
                                       ("matching", 4, 1), ("fetching", 4, 1)])


class PlanByTest(LeastCase):
    def plan(self, weave, table, mask, wanted):
        told = dict(table)
        self.same(plan_by(weave, table, mask).told(), wanted.told())
        self.same(table, told)

    def test_one_leaf(self):
        weave = self.weave([P, C], [OLD, LIKE, OSLO, value("p.id", "<=", 3)])
        last = value("p.id", "<=", 3)
        self.plan(weave, {1: (0, ("through",))}, 1, Sift(last, Sift(OSLO, Sift(OLD, THROUGH["p"]))))
        self.plan(weave, {1: (0, ("along", 0))}, 1, Sift(last, Sift(OSLO, Along("people", "p", "age", 12, None))))
        self.plan(weave, {1: (0, ("along", 2))}, 1, Sift(last, Sift(OLD, Along("people", "p", "city", "oslo", "oslo"))))
        self.plan(weave, {1: (0, ("along", 3))}, 1, Sift(OSLO, Sift(OLD, Along("people", "p", "id", None, 3))))
        self.plan(weave, {2: (0, ("through",))}, 2, THROUGH["c"])

    def test_a_leaf_that_is_no_scan(self):
        conds = [value("many", ">", 1), value("q.city", "=", "a")]
        weave = self.weave([P, MADE.reading()], conds, {1: MADE})
        self.plan(weave, {2: (0, ("made",))}, 2, Sift(conds[1], Sift(conds[0], MADE)))

    def test_pairing_matching_fetching(self):
        conds = [SIZE, OLD, LIKE, value("c.size", "<", 9), Or(SIZE, LIKE)]
        weave = self.weave([P, C], conds)
        one, other = Sift(OLD, THROUGH["p"]), Sift(conds[3], THROUGH["c"])
        table = {1: (0, ("through",)), 2: (0, ("through",))}
        table[3] = (0, ("pairing", 1, 2))
        self.plan(weave, table, 3, Sift(conds[4], Sift(LIKE, Sift(SIZE, Pairing(one, other)))))
        table[3] = (0, ("pairing", 2, 1))
        self.plan(weave, table, 3, Sift(conds[4], Sift(LIKE, Sift(SIZE, Pairing(other, one)))))
        table[3] = (0, ("matching", 1, 2))
        self.plan(weave, table, 3, Sift(conds[4], Matching(one, other, [("p.age", "c.size"), ("p.city", "c.name")])))
        table[3] = (0, ("matching", 2, 1))
        self.plan(weave, table, 3, Sift(conds[4], Matching(other, one, [("c.size", "p.age"), ("c.name", "p.city")])))
        table[3] = (0, ("fetching", 1, 2))
        self.plan(weave, table, 3, Sift(conds[4], Sift(conds[3], Sift(SIZE, Fetching(
            one, "cities", "c", "name", "p.city")))))
        table[3] = (0, ("fetching", 2, 0))
        self.plan(weave, table, 3, Sift(conds[4], Sift(LIKE, Sift(OLD, Fetching(
            other, "people", "p", "age", "c.size")))))

    def test_conditions_within_parts_are_done_there(self):
        conds = [column("p.id", "<", "c.size"), LIKE, KEYS, column("q.city", "=", "c.name"), OLD]
        weave = self.weave([P, C, Q], conds)
        table = {1: (0, ("along", 4)), 2: (0, ("through",)), 4: (0, ("through",)), 3: (0, ("fetching", 2, 1)),
                 7: (0, ("matching", 3, 4))}
        beneath = Sift(OLD, Sift(conds[0], Fetching(THROUGH["c"], "people", "p", "city", "c.name")))
        self.plan(weave, table, 3, beneath)
        self.plan(weave, table, 7, Matching(beneath, THROUGH["q"], [("p.id", "q.id"), ("c.name", "q.city")]))
        table[7] = (0, ("fetching", 3, 3))
        self.plan(weave, table, 7, Sift(KEYS, Fetching(beneath, "people", "q", "city", "c.name")))

    def test_costs_in_the_table_dont_matter(self):
        weave = self.weave([P, C], [LIKE])
        for cost in (0, 5, 10 ** 39):
            table = {1: (cost, ("through",)), 2: (0, ("through",)), 3: (cost, ("fetching", 1, 0))}
            self.plan(weave, table, 3, Fetching(THROUGH["p"], "cities", "c", "name", "p.city"))


class CostByTest(LeastCase):
    def test_one_leaf(self):
        weave = self.weave([P, C], [OLD, LIKE, OSLO])
        for way, cost in ((("through",), 5 + 5 + 4), (("along", 0), 5 + 4), (("along", 2), 4 + 3)):
            self.same(cost_by(weave, {}, 1, way, self.figures), cost)
        self.same(cost_by(weave, {}, 2, ("through",), self.figures), 4)

    def test_a_leaf_that_is_no_scan(self):
        weave = self.weave([P, MADE.reading()], [value("many", ">", 1)], {1: MADE})
        self.same(cost_by(weave, {}, 2, ("made",), self.figures), 5 + 5 + 5)

    def test_two_leaves_by_the_costs_that_the_table_tells(self):
        conds = [OLD, LIKE, value("c.size", ">=", 9)]
        weave = self.weave([P, C], conds)
        for one, other in ((0, 0), (9, 8), (100, 1000)):
            table = {1: (one, ("through",)), 2: (other, ("through",))}
            for way, cost in ((("pairing", 1, 2), one + other + 4 * 2 + 4 * 2),
                              (("pairing", 2, 1), one + other + 2 * 4 + 8),
                              (("matching", 1, 2), one + other + 4 + 2 + 4),
                              (("matching", 2, 1), one + other + 2 + 4 + 4),
                              (("fetching", 1, 1), one + 4 + 4 + 4),
                              (("fetching", 2, 1), other + 2 + 5 + 5)):
                self.same(cost_by(weave, table, 3, way, self.figures), cost)

    def test_an_and_bounds_by_all_that_it_is_made_of(self):
        weave = self.weave([P, C], [And(LIKE, OSLO), And(OLD, And(OSLO, value("p.id", "<=", 3))), OLD])
        self.same(accesses(weave, 0), [("through",), ("along", 2)])
        self.same(cost_by(weave, {}, 1, ("through",), self.figures), 5 + 5 + 3)
        table = {1: (9, ("through",)), 2: (4, ("through",))}
        self.same(ways_for(weave, 3), [("pairing", 1, 2), ("pairing", 2, 1)])
        self.same(cost_by(weave, table, 3, ("pairing", 1, 2), self.figures), 9 + 4 + 3 * 4 + 12)
        weave = self.weave([P, C], [And(LIKE, OSLO), Or(OLD, LIKE)])
        self.same(cost_by(weave, table, 3, ("pairing", 1, 2), self.figures), 9 + 4 + 5 * 4 + 20 + 3)

    def test_the_cost_of_the_plan_that_the_way_has(self):
        chance = random.Random(3)
        for turn in range(40):
            self.read(rows_by(chance))
            weave = weave_by(chance, self.schema, chance.randint(1, 4))
            table = {}
            for mask in range(1, 1 << len(weave.leaves)):
                for way in ways_for(weave, mask):
                    table[mask] = (0, way)
                    cost = cost_of(plan_by(weave, table, mask), self.schema, self.figures)
                    table[mask] = (cost, way)
                    self.same(cost_by(weave, table, mask, way, self.figures), cost)
                way = chance.choice(ways_for(weave, mask))
                table[mask] = (0, way)
                table[mask] = (cost_of(plan_by(weave, table, mask), self.schema, self.figures), way)


def weave_by(chance, schema, many, few=False):
    """A weave by chance of so many leaves, some of them no scans."""
    growth = PlanGrowth(chance, 1)
    leaves, made = [], {}
    for number in range(many):
        plan = Through(chance.choice(["people", "cities"]), growth.new_name("t"))
        if chance.random() < 0.25:
            plan = growth.piece_over(chance.choice(["group", "sort", "first"]), plan)
            made[number] = plan
        leaves.append(plan.reading())
    columns = [named for leaf in leaves for named in leaf.columns_told(schema)]
    conds = []
    for turn in range(chance.randint(0, 2 if few else 5)):
        name, kind = chance.choice(columns)
        others = [other for other, of_kind in columns if of_kind == kind]
        if chance.random() < 0.5:
            conds.append(column(name, "=", chance.choice(others)))
        else:
            conds.append(growth.cond(columns, chance.choice([1, 1, 2])))
    return Weave(schema, leaves, conds, made)


class TableTest(LeastCase):
    def test_a_scan_alone(self):
        self.same(least_table(self.weave([P], []), self.figures), {1: (5, ("through",))})
        self.same(least_table(self.weave([P], [OSLO]), self.figures), {1: (4, ("along", 0))})
        self.same(least_table(self.weave([P], [value("p.id", "<=", 99)]), self.figures), {1: (6, ("along", 0))})
        self.same(least_table(self.weave([C], [value("c.size", "=", 9)]), self.figures), {1: (8, ("through",))})

    def test_a_leaf_that_is_no_scan_alone(self):
        weave = self.weave([MADE.reading()], [], {0: MADE})
        self.same(least_table(weave, self.figures), {1: (10, ("made",))})

    def test_the_first_of_several_ways_of_one_cost(self):
        self.same(least_table(self.weave([P], [value("p.age", ">=", 30), OSLO]), self.figures)[1],
                  (4 + 3, ("along", 0)))
        self.same(least_table(self.weave([P, C], []), self.figures)[3], (29, ("pairing", 1, 2)))
        self.read({})
        self.same(least_table(self.weave([P, C], [LIKE]), self.figures),
                  {1: (0, ("through",)), 2: (0, ("through",)), 3: (0, ("pairing", 1, 2))})
        self.same(least_table(self.weave([P], [OSLO]), self.figures), {1: (0, ("through",))})

    def test_two_leaves(self):
        weave = self.weave([P, C], [LIKE])
        self.same(least_table(weave, self.figures), {1: (5, ("through",)), 2: (4, ("through",)),
                                                     3: (4 + 4 + 5, ("fetching", 2, 0))})

    def all_ways(self, weave, mask):
        """All ways to a set by the words of [122], pieced together another way than by walking numbers."""
        leaves = [number for number in range(len(weave.leaves)) if mask // 2 ** number % 2]
        homes = {name: number for number, leaf in enumerate(weave.leaves)
                 for name, kind in leaf.columns_told(self.schema)}
        told = [cond.told() for cond in weave.conds]
        if len(leaves) == 1:
            leaf = weave.leaves[leaves[0]]
            if not isinstance(leaf, Scan):
                return [("made",)]
            return [("through",)] + [
                ("along", number) for number, cond in enumerate(told)
                if cond[0] == "compare" and cond[3][0] == "value" and cond[2] in ("=", "<=", ">=")
                and homes[cond[1]] == leaves[0] and self.schema.has_order(leaf.table, cond[1].split(".")[1])]
        ways = []
        for many in range(1, len(leaves)):
            for ones in itertools.combinations(leaves, many):
                others = [leaf for leaf in leaves if leaf not in ones]
                one, other = sum(2 ** leaf for leaf in ones), sum(2 ** leaf for leaf in others)
                ways.append((one, 0, 0, ("pairing", one, other)))
                fetched = weave.leaves[others[0]]
                for number, cond in enumerate(told):
                    if cond[0] != "compare" or cond[2] != "=" or cond[3][0] != "column":
                        continue
                    for left, right in ((cond[1], cond[3][1]), (cond[3][1], cond[1])):
                        if homes[left] in ones and homes[right] in others:
                            ways.append((one, 1, 0, ("matching", one, other)))
                            if len(others) == 1 and isinstance(fetched, Scan):
                                if self.schema.has_order(fetched.table, right.split(".")[1]):
                                    ways.append((one, 2, number, ("fetching", one, number)))
        return [way for one, kind, number, way in sorted(set(ways))]

    def test_all_ways_in_their_order(self):
        chance = random.Random(8)
        for turn in range(80):
            weave = weave_by(chance, self.schema, chance.randint(1, 5))
            for mask in range(1, 1 << len(weave.leaves)):
                self.same(ways_for(weave, mask), self.all_ways(weave, mask))

    def plans(self, weave, mask, known):
        """All plans of the told kind for a set, by all ways at each place."""
        if mask not in known:
            found = []
            for way in self.all_ways(weave, mask):
                beneath = []
                if way[0] in ("pairing", "matching"):
                    beneath = [(way[1], plan) for plan in self.plans(weave, way[1], known)]
                    beneath = [[one, (way[2], plan)] for one in beneath for plan in self.plans(weave, way[2], known)]
                elif way[0] == "fetching":
                    beneath = [[(way[1], plan)] for plan in self.plans(weave, way[1], known)]
                found.extend([{**{part: entry for chosen in parts for part, entry in chosen[1].items()},
                               mask: (0, way)} for parts in (beneath or [[]])])
            known[mask] = found
        return known[mask]

    def test_held_against_all_plans(self):
        chance = random.Random(14)
        for turn in range(60):
            many = chance.choice([1, 2, 2, 3, 3, 3])
            self.read(rows_by(chance))
            weave = weave_by(chance, self.schema, many, few=many > 2)
            self.held_against_all(weave)

    def test_four_leaves_held_against_all_plans(self):
        chance = random.Random(15)
        tried = 0
        while tried < 2:
            self.read(rows_by(chance, 3))
            weave = weave_by(chance, self.schema, 4, few=True)
            if 121 < len(self.plans(weave, 15, {})) < 1500:
                tried += 1
                self.held_against_all(weave)

    def held_against_all(self, weave):
        table = least_table(weave, self.figures)
        self.same(list(table), list(range(1, 1 << len(weave.leaves))))
        known = {}
        for mask, (cost, way) in table.items():
            costs = [cost_of(plan_by(weave, ways, mask), self.schema, self.figures)
                     for ways in self.plans(weave, mask, known)]
            self.same(cost, min(costs))
            self.same(cost_of(plan_by(weave, table, mask), self.schema, self.figures), cost)
        self.assertIs(table_holds(weave, table, self.figures), True)

    def test_plans_by_the_table(self):
        chance = random.Random(16)
        for turn in range(60):
            self.read(rows_by(chance, 4))
            weave = weave_by(chance, self.schema, chance.randint(1, 5))
            table = least_table(weave, self.figures)
            mask = (1 << len(weave.leaves)) - 1
            plan = plan_by(weave, table, mask)
            self.assertIsNone(need_plan(plan, self.schema))
            self.same(sorted(leaf.told()[0] + repr(leaf.told()) for leaf in leaves_beneath(plan.reading())),
                      sorted(leaf.told()[0] + repr(leaf.told()) for leaf in weave.leaves))
            rows, touched = run_plan(plan, self.schema, self.reader)
            self.same(rows, plain_answer(plan.reading(), self.schema, self.reader)[1])
            self.assertLessEqual(touched, table[mask][0])
            tree = weave.leaves[0]
            for leaf in weave.leaves[1:]:
                tree = Product(tree, leaf)
            for cond in weave.conds:
                tree = Choose(cond, tree)
            self.same(len(rows), len(plain_answer(tree, self.schema, self.reader)[1]))

    def test_a_weave_of_six_leaves_is_refused_nothing(self):
        leaves = [Scan("cities", "c" + sign) for sign in "abcdef"]
        conds = [column("c" + one + ".name", "=", "c" + other + ".name") for one, other in zip("abcde", "bcdef")]
        weave = self.weave(leaves, conds)
        table = least_table(weave, self.figures)
        self.same(len(table), 63)
        self.assertIs(table_holds(weave, table, self.figures), True)


class HoldsTest(LeastCase):
    def setUp(self):
        super().setUp()
        self.woven = self.weave([P, C, Q], [LIKE, OLD, KEYS])
        self.table = least_table(self.woven, self.figures)

    def holds(self, thing):
        return table_holds(self.woven, thing, self.figures)

    def put(self, mask, entry):
        return {**self.table, mask: entry}

    def test_the_table_of_least_costs(self):
        self.assertIs(self.holds(self.table), True)
        self.assertIs(self.holds(dict(reversed(list(self.table.items())))), True)

    def test_things_that_are_no_tables(self):
        for thing in ODD_THINGS + [list(self.table.items()), tuple(self.table.items()), [None] + [
                self.table[mask] for mask in sorted(self.table)], AlikeToAll(), "table", 7, None]:
            self.assertIs(self.holds(thing), False)

    def test_a_set_left_out_or_too_many(self):
        for mask in self.table:
            less = dict(self.table)
            less.pop(mask)
            self.assertIs(self.holds(less), False)
            for other in (0, 8, -1, 8 + mask, "1", None, (1,), 10 ** 39, 1.5):
                self.assertIs(self.holds({**self.table, other: self.table[mask]}), False)
                self.assertIs(self.holds({**less, other: self.table[mask]}), False)
        self.assertIs(self.holds({}), False)

    def test_sets_that_are_no_whole_numbers(self):
        for mask in self.table:
            less = dict(self.table)
            entry = less.pop(mask)
            self.assertIs(self.holds({**less, float(mask): entry}), False)
            self.assertIs(self.holds({**less, str(mask): entry}), False)
        less = dict(self.table)
        entry = less.pop(1)
        self.assertIs(self.holds({**less, True: entry}), False)
        self.assertIs(self.holds({**less, AlikeToAll(): entry}), False)

    def test_entries_that_are_none(self):
        for mask, (cost, way) in self.table.items():
            for entry in (None, (), (cost,), (cost, way, None), [cost, way], (way, cost), {0: cost, 1: way}, cost, way,
                          (str(cost), way), (None, way), (float(cost), way), ((cost,), way), AlikeToAll(),
                          (AlikeToAll(), way), (cost, AlikeToAll()), (True, way), (False, way)):
                self.assertIs(self.holds(self.put(mask, entry)), False)

    def test_a_truth_in_the_place_of_a_cost(self):
        self.read({"people": [(1, "oslo", 30)], "cities": [("oslo", 9)]})
        weave = self.weave([P, C], [LIKE])
        table = least_table(weave, self.figures)
        self.same(table[1], (1, ("through",)))
        self.assertIs(table_holds(weave, table, self.figures), True)
        self.assertIs(table_holds(weave, {**table, 1: (True, ("through",))}, self.figures), False)
        self.assertIs(table_holds(weave, {**table, 1: (1.0, ("through",))}, self.figures), False)
        self.read({})
        table = least_table(weave, self.figures)
        self.assertIs(table_holds(weave, table, self.figures), True)
        self.assertIs(table_holds(weave, {**table, 1: (False, ("through",))}, self.figures), False)

    def test_a_cost_more_or_less_by_one(self):
        for mask, (cost, way) in self.table.items():
            for other in (cost + 1, cost - 1, -cost, 0, 10 ** 39):
                self.assertIs(self.holds(self.put(mask, (other, way))), False)

    def test_ways_that_are_none(self):
        for mask, (cost, way) in self.table.items():
            for other in (None, (), "through", way + (0,), way[:-1], list(way), (way,), ("nosuch",),
                          (way[0].upper(),) + way[1:], way[::-1] + (1,), ("made",), ("along", 0), ("along", 9),
                          ("pairing", mask, 0), ("pairing", 0, mask), ("fetching", 1, 9), (AlikeToAll(),) + way[1:],
                          (None,) + way[1:]):
                self.assertIs(self.holds(self.put(mask, (cost, other))), False)

    def test_numbers_in_ways_that_are_no_whole_numbers(self):
        conds = [LIKE, OSLO]
        weave = self.weave([P, C], conds)
        table = least_table(weave, self.figures)
        self.same(table[1], (4, ("along", 1)))
        for number in (True, 1.0, "1", AlikeToAll(), None, (1,)):
            self.assertIs(table_holds(weave, {**table, 1: (4, ("along", number))}, self.figures), False)
        way = table[3][1]
        for place in (1, 2):
            for number in (bool(way[place]), float(way[place]), str(way[place]), AlikeToAll()):
                other = way[:place] + (number,) + way[place + 1:]
                self.assertIs(table_holds(weave, {**table, 3: (table[3][0], other)}, self.figures), False)

    def test_a_way_that_is_dearer_with_its_own_cost(self):
        for mask, (cost, way) in self.table.items():
            for other in ways_for(self.woven, mask):
                own = cost_by(self.woven, self.table, mask, other, self.figures)
                self.assertIs(self.holds(self.put(mask, (own, other))), own == cost)
                if other != way:
                    self.assertIs(self.holds(self.put(mask, (cost, other))), own == cost)

    def test_costs_by_the_table_itself(self):
        weave = self.weave([P, C], [LIKE])
        table = least_table(weave, self.figures)
        dearer = {**table, 2: (table[2][0] + 1, ("through",)), 3: (table[3][0] + 1, table[3][1])}
        self.assertIs(table_holds(weave, dearer, self.figures), False)

    def test_which_of_several_ways_of_one_cost_doesnt_matter(self):
        self.read({})
        weave = self.weave([P, C], [LIKE])
        table = least_table(weave, self.figures)
        for way in ways_for(weave, 3):
            self.assertIs(table_holds(weave, {**table, 3: (0, way)}, self.figures), True)

    def test_tables_of_other_weaves_and_figures(self):
        other = self.weave([P, Q, C], [LIKE, OLD, KEYS])
        self.assertIs(table_holds(other, self.table, self.figures), False)
        self.read({"people": ROWS["people"][:2], "cities": []})
        self.assertIs(self.holds(self.table), False)

    def test_a_leaf_that_is_no_scan(self):
        made = Ordering([("q.id", True)], THROUGH["q"])
        weave = self.weave([P, Sort([("q.id", True)], Q)], [KEYS], {1: made})
        table = least_table(weave, self.figures)
        self.assertIs(table_holds(weave, table, self.figures), True)
        self.assertIs(table_holds(weave, {**table, 2: (table[2][0], ("through",))}, self.figures), False)

    def test_tables_that_hold_together_but_are_dearer(self):
        chance = random.Random(19)
        seen = []
        for turn in range(60):
            self.read(rows_by(chance))
            self.woven = weave_by(chance, self.schema, chance.randint(2, 4))
            least = least_table(self.woven, self.figures)
            table = {}
            for mask in least:
                way = least[mask][1] if chance.random() < 0.7 else chance.choice(ways_for(self.woven, mask))
                table[mask] = (cost_by(self.woven, table, mask, way, self.figures), way)
            right = [table[mask][0] for mask in table] == [least[mask][0] for mask in least]
            self.assertIs(self.holds(table), right)
            seen.append(right)
        self.same((True in seen, False in seen), (True, True))

    def test_tables_by_chance(self):
        chance = random.Random(18)
        for turn in range(40):
            self.read(rows_by(chance))
            self.woven = weave_by(chance, self.schema, chance.randint(1, 4))
            self.table = least_table(self.woven, self.figures)
            self.assertIs(self.holds(self.table), True)
            mask = chance.choice(list(self.table))
            way = chance.choice(ways_for(self.woven, mask))
            cost = self.table[mask][0] + chance.choice([-1, 0, 1])
            right = cost == self.table[mask][0] == cost_by(self.woven, self.table, mask, way, self.figures)
            self.assertIs(self.holds(self.put(mask, (cost, way))), right)


if __name__ == "__main__":
    unittest.main()
