"""From a question to its plan [134], [135], the promises of questions [8] and of costs [9], and [4], [5] of them."""

import random
import unittest

from helper import Case, Growth, reader_of, rows_by, small_schema
from planstore.asking import read_question
from planstore.conditions import And, Compare
from planstore.costs import conds_of, cost_of, leaves_of, most_rows
from planstore.dealings import Dealings
from planstore.errors import Alike, NoColumn, NoMake, NoPlan, NoTable, Over, WrongKind
from planstore.figures import Figures
from planstore.least import Weave, least_table, plan_by, table_holds
from planstore.makes import Makes
from planstore.papers import shows, walked
from planstore.plain import plain_answer
from planstore.planner import planned
from planstore.plans import (Along, Fetching, Firsts, Grouping, Matching, Narrow, Ordering, Sift, Through, need_plan)
from planstore.readers import AtMake
from planstore.running import run_plan
from planstore.schema import schema_in
from planstore.trees import Choose, First, Group, Keep, Product, Scan, Sort

ROWS = {
    "people": [(-2, "oslo", 30), (1, "bergen", 9), (3, "oslo", 12), (5, "oslo", 30), (7, "rome", 30)],
    "cities": [("bergen", 3), ("oslo", 9), ("paris", 9), ("rome", 1)],
}
P, C = Scan("people", "p"), Scan("cities", "c")
P_ALL = ["p.id", "p.city", "p.age"]
C_ALL = ["c.name", "c.size"]
COUNT = ("count", None, "many")
OLD = Compare("p.age", ">", ("value", 11))
OSLO = Compare("p.city", "=", ("value", "oslo"))
LIKE = Compare("p.city", "=", ("column", "c.name"))


def product_of(many):
    tree = Scan("cities", "ca")
    for turn in range(1, many):
        tree = Product(tree, Scan("cities", "c" + "abcdefghijklmnopqrstuvwxyz"[turn]))
    return tree


class PlannerCase(Case):
    def setUp(self):
        self.schema = small_schema()
        self.makes = Makes(self.schema, ROWS)
        self.reader = AtMake(self.makes, 0)

    def plan(self, tree):
        before = tree.told()
        got = planned(tree, self.schema, self.reader)
        self.same((type(got), len(got), type(got[1])), (tuple, 2, list))
        self.same(tree.told(), before)
        return got

    def holds(self, tree):
        """All that is promised of the plan and the paper of a question."""
        plan, steps = self.plan(tree)
        self.assertIs(shows(tree, steps, plan.reading(), self.schema), True)
        self.assertLessEqual(len(steps), 4000)
        self.assertIsNone(need_plan(plan, self.schema))
        names, rows = plain_answer(tree, self.schema, self.reader)
        got, touched = run_plan(plan, self.schema, self.reader)
        self.same(got, rows)
        self.same([name for name, kind in plan.reading().columns_told(self.schema)], names)
        figures = Figures(self.schema, self.reader)
        self.assertLessEqual(touched, cost_of(plan, self.schema, figures))
        self.assertLessEqual(len(rows), most_rows(tree, self.schema, figures))
        self.same(plan.told(), self.told_plan(tree, figures).told())
        return plan

    def told_plan(self, tree, figures):
        """The plan that [134] tells of, piece by piece."""
        if isinstance(tree, Scan):
            return Through(tree.table, tree.alias)
        if isinstance(tree, Group):
            return Grouping(tree.by, tree.sums, self.told_plan(tree.part, figures))
        if isinstance(tree, Sort):
            return Ordering(tree.by, self.told_plan(tree.part, figures))
        if isinstance(tree, First):
            return Firsts(tree.many, self.told_plan(tree.part, figures))
        made = {number: self.told_plan(leaf, figures) for number, leaf in enumerate(leaves_of(tree))
                if not isinstance(leaf, Scan)}
        leaves = [made[number].reading() if number in made else leaf for number, leaf in enumerate(leaves_of(tree))]
        weave = Weave(self.schema, leaves, conds_of(tree), made)
        table = least_table(weave, figures)
        self.assertIs(table_holds(weave, table, figures), True)
        names = [name for name, kind in tree.columns_told(self.schema)]
        plan = Narrow(names, plan_by(weave, table, max(table)))
        self.same(cost_of(plan.part, self.schema, figures), table[max(table)][0])
        return plan


class PlansTest(PlannerCase):
    def plans(self, tree, wanted):
        self.same(self.holds(tree).told(), wanted.told())

    def test_a_scan_alone(self):
        self.plans(P, Through("people", "p"))
        self.same(self.plan(P)[1], [])

    def test_pieces_above_a_scan(self):
        self.plans(Group(["p.city"], [COUNT], P), Grouping(["p.city"], [COUNT], Through("people", "p")))
        self.plans(Sort([("p.id", True)], P), Ordering([("p.id", True)], Through("people", "p")))
        self.plans(First(2, Sort([("p.id", True)], P)), Firsts(2, Ordering([("p.id", True)], Through("people", "p"))))
        self.same(self.plan(First(2, Sort([("p.id", True)], P)))[1], [])

    def test_a_weave_of_one_leaf(self):
        self.plans(Choose(OLD, P), Narrow(P_ALL, Sift(OLD, Through("people", "p"))))
        self.plans(Keep(["p.age", "p.id"], P), Narrow(["p.age", "p.id"], Through("people", "p")))
        self.plans(Choose(OSLO, P), Narrow(P_ALL, Along("people", "p", "city", "oslo", "oslo")))
        self.plans(Keep(["p.id"], Choose(And(OLD, OSLO), P)),
                   Narrow(["p.id"], Sift(OLD, Along("people", "p", "city", "oslo", "oslo"))))

    def test_a_join(self):
        self.plans(Choose(LIKE, Product(P, C)), Narrow(P_ALL + C_ALL, Fetching(
            Through("cities", "c"), "people", "p", "city", "c.name")))
        self.plans(Choose(LIKE, Product(Choose(OSLO, P), C)), Narrow(P_ALL + C_ALL, Fetching(
            Along("people", "p", "city", "oslo", "oslo"), "cities", "c", "name", "p.city")))

    def test_leaves_that_are_no_scans(self):
        group = Group(["p.city"], [COUNT], Choose(OLD, P))
        made = Grouping(["p.city"], [COUNT], Narrow(P_ALL, Sift(OLD, Through("people", "p"))))
        self.plans(Choose(LIKE, Product(group, C)), Narrow(["p.city", "many"] + C_ALL, Fetching(
            made, "cities", "c", "name", "p.city")))
        first = First(2, Sort([("c.size", True)], Choose(Compare("c.size", ">", ("value", 1)), C)))
        self.holds(Choose(LIKE, Product(first, group)))
        self.same(type(self.holds(Choose(LIKE, Product(first, group))).part), Matching)

    def test_above_between_and_beneath_weaves(self):
        texts = [
            "table people as p | group p.city : count many | choose many > 1 | sort many down | first 1",
            "table people as p | sort p.age down | first 3 | join table cities as c on p.city = c.name | sort c.size",
            "table people as p | join ( table cities as c | first 2 | choose c.size > 1 ) on p.city = c.name | "
            "group c.name : count many , sum p.age all | keep all c.name | first 1 | choose all > 0",
            "table people as p | join table cities as c on p.city = c.name and p.age = c.size | keep p.id",
            "table people as p | with ( table cities as c | group : count many ) | choose p.age > many | keep p.age",
            "table people as a | join table people as b on a.city = b.city | join table people as c on b.age = c.age | "
            "choose a.id < b.id and ( b.id < c.id or not c.id > 3 ) | group a.id : greatest c.id most | sort most , a.id "
            "down",
            "table people as p | choose p.id > 99 | with table cities as c | group : count many",
            "table people as a | first 0 | join table cities as b on a.city = b.name",
            "( table people as a | join table cities as b on a.city = b.name ) | with ( table people as c | join table "
            "cities as d on c.city = d.name | choose c.age > 9 and d.size >= 1 ) | choose a.id = c.id",
        ]
        for text in texts:
            self.holds(read_question(text))

    def test_five_leaves(self):
        text = ("table people as a | join table cities as b on a.city = b.name | join table people as c on c.city = b.name"
                " | join table cities as d on d.size = b.size | join table people as e on e.id = c.age | keep a.id e.id")
        self.holds(read_question(text))
        self.holds(Group([], [COUNT], product_of(5)))

    def test_a_schema_without_orders(self):
        self.schema = schema_in("a a:number b:word | b a:word b:number")
        self.makes = Makes(self.schema, {"a": [(1, "x"), (2, "y"), (3, "x")], "b": [("x", 1), ("y", 2)]})
        self.reader = AtMake(self.makes, 0)
        for text in ("table a | join table b on a.b = b.a | choose a.a = 1", "table a | choose a.b = 'x'",
                     "table b | with table a | choose b.b <= a.a"):
            self.holds(read_question(text))

    def test_tables_without_rows(self):
        self.reader = reader_of({})
        for tree in (P, Choose(OLD, P), Choose(LIKE, Product(P, C)), Group([], [COUNT], Product(P, C))):
            self.holds(tree)

    def test_the_same_each_time_and_the_askers_own(self):
        tree = Keep(["c.size"], Choose(LIKE, Product(Choose(OLD, P), C)))
        plan, steps = self.plan(tree)
        text, wanted = plan.text(), list(steps)
        steps.clear()
        again = self.plan(tree)
        self.same((again[0].text(), again[1]), (text, wanted))


class ReadersTest(PlannerCase):
    def test_a_dealing_with_writes_of_its_own(self):
        dealing = Dealings(self.makes).begin()
        for key in (-2, 1, 3, 5):
            dealing.cut("people", key)
        tree = Choose(LIKE, Product(P, C))
        self.same(self.holds(tree).part.one.table, "cities")
        self.reader = dealing
        self.same(self.holds(tree).part.one.table, "people")
        for key in range(20, 50):
            dealing.put("people", (key, "rome", key))
        for text in ("table people as p | choose p.age <= 25", "table people as p | choose p.city = 'rome'",
                     "table people as p | join table cities as c on p.city = c.name | choose c.size > 1"):
            self.holds(read_question(text))

    def test_by_what_is_read_as_it_stands_then(self):
        tree = Choose(Compare("p.age", ">=", ("value", 12)), P)
        self.same(self.holds(tree).part.told()[0], "along")
        self.makes.add_make([("people", key, None) for key in (1, 3)])
        self.reader = AtMake(self.makes, 1)
        self.same(self.holds(tree).part.told()[0], "along")
        self.makes.add_make([("people", key, (key, "a", 99)) for key in range(100, 120)])
        self.reader = AtMake(self.makes, 2)
        self.same(self.holds(tree).part.told()[0], "along")
        self.reader = reader_of({})
        self.same(self.holds(tree).part.told()[0], "sift")


class RefusedTest(PlannerCase):
    def readers(self):
        dealings = Dealings(self.makes)
        over = dealings.begin()
        dealings.broken(over)
        swept = AtMake(self.makes, 0)
        self.makes.add_make([])
        self.makes.sweep([])
        return [(over, Over, {"number": over.number}), (swept, NoMake, {"number": 0})]

    def test_columns_first(self):
        six = product_of(6)
        for reader in [self.reader] + [reader for reader, error, values in self.readers()]:
            for tree, error, values in (
                    (Scan("towns", "t"), NoTable, {"table": "towns"}),
                    (Product(six, Scan("towns", "t")), NoTable, {"table": "towns"}),
                    (Keep(["x"], six), NoColumn, {"name": "x"}),
                    (Choose(Compare("ca.name", "=", ("value", 1)), six), WrongKind, {"name": "ca.name"}),
                    (Product(six, Scan("cities", "ca")), Alike, {"name": "ca.name"})):
                self.refused(error, values, planned, tree, self.schema, reader)

    def test_then_what_is_read(self):
        for reader, error, values in self.readers():
            for tree in (P, First(0, P), Choose(OLD, P), Product(P, C), product_of(6), Group([], [COUNT], product_of(7))):
                self.refused(error, values, planned, tree, self.schema, reader)

    def test_then_more_than_five_leaves(self):
        self.holds(product_of(5))
        group = Group([], [COUNT], product_of(6))
        for tree in (product_of(6), Keep(["ca.size"], product_of(6)), group, First(1, Sort([("many", True)], group)),
                     Product(P, group), Choose(LIKE, Product(Product(P, C), First(2, group))), product_of(20),
                     Group([], [("count", None, "all")], Product(Group([], [COUNT], product_of(20)), P))):
            self.refused(NoPlan, {}, planned, tree, self.schema, self.reader)

    def test_leaves_of_two_weaves_are_not_counted_together(self):
        tree = Product(Group([], [COUNT], product_of(5)), Product(P, Scan("people", "q")))
        self.holds(tree)


class ByChanceTest(PlannerCase):
    def test_questions(self):
        chance = random.Random(10)
        words = set()
        for turn in range(350):
            self.makes = Makes(self.schema, rows_by(chance, 5))
            self.reader = AtMake(self.makes, 0)
            if chance.random() < 0.4:
                self.reader = Dealings(self.makes).begin()
                for key in chance.sample(range(9), 3):
                    self.reader.put("people", (key, chance.choice("abc"), chance.randrange(4)))
            growth = Growth(chance, 4)
            tree = growth.tree(8)
            plan = self.holds(tree)
            while plan is not None:
                words.add(plan.told()[0])
                plan = plan.parts()[0] if plan.parts() else None
        self.same(words >= {"narrow", "sift", "along", "through", "grouping", "ordering", "firsts", "pairing"}, True)

    def test_joins(self):
        chance = random.Random(11)
        words = {}
        for turn in range(120):
            self.reader = reader_of(rows_by(chance, 6))
            growth = Growth(chance, 1)
            tree = Scan(chance.choice(["people", "cities"]), growth.new_name("t"))
            for leaf in range(chance.randint(1, 3)):
                other = Scan(chance.choice(["people", "cities"]), growth.new_name("t"))
                if chance.random() < 0.2:
                    other = growth.over(chance.choice([Group, Sort, First]), other)
                pairs = [(one, two) for one, kind in growth.columns(tree) for two, of_kind in growth.columns(other)
                         if kind == of_kind]
                tree = Product(tree, other) if chance.random() < 0.5 else Product(other, tree)
                for left, right in chance.sample(pairs, min(len(pairs), chance.choice([1, 1, 2]))):
                    pair = [left, right]
                    chance.shuffle(pair)
                    tree = Choose(Compare(pair[0], "=", ("column", pair[1])), tree)
                if chance.random() < 0.5:
                    tree = growth.over(chance.choice([Choose, Keep]), tree)
            text = self.holds(tree).text()
            for word in ("pairing", "matching", "fetching", "along"):
                words[word] = words.get(word, 0) + (f"{word} " in text)
        self.assertGreater(min(words.values()), 5, words)

    def test_papers_walked_step_by_step(self):
        chance = random.Random(12)
        for turn in range(25):
            self.reader = reader_of(rows_by(chance, 4))
            tree = Growth(chance, 3).tree(6)
            steps = self.plan(tree)[1]
            wanted = plain_answer(tree, self.schema, self.reader)
            for many in range(len(steps) + 1):
                behind = walked(tree, steps[:many], self.schema)
                self.same(plain_answer(behind, self.schema, self.reader), wanted)


if __name__ == "__main__":
    unittest.main()
