"""Weaves, their one forms, and papers to targets [131] to [133], and [3], [4] of them."""

import itertools
import random
import unittest

from helper import Case, Growth, column, reader_of, rows_by, small_schema, value
from planstore.conditions import And, Not, Or
from planstore.costs import conds_of, leaves_of
from planstore.papers import shows, walked
from planstore.plain import plain_answer
from planstore.rules import rule_by
from planstore.trees import Choose, First, Group, Keep, Product, Scan, Sort
from planstore.weaving import one_form, steps_to, woven

P, Q, R, C, D = (Scan("people", "p"), Scan("people", "q"), Scan("people", "r"), Scan("cities", "c"),
                 Scan("cities", "d"))
P_ALL, C_ALL, D_ALL = ["p.id", "p.city", "p.age"], ["c.name", "c.size"], ["d.name", "d.size"]
COUNT = ("count", None, "many")


OLD = value("p.age", ">", 11)
YOUNG = value("p.id", "<", 6)
LARGE = value("c.size", ">=", 3)
LIKE = column("p.city", "=", "c.name")
LESS = column("p.age", "<", "c.size")
SIZES = column("c.size", "<=", "d.size")


def told(things):
    return [thing.told() for thing in things]


def mirror(cond):
    return rule_by("mirror").applied(Choose(cond, None), None).cond


class WeavingCase(Case):
    def setUp(self):
        self.schema = small_schema()

    def names(self, tree):
        return [name for name, kind in tree.columns_told(self.schema)]

    def weaves(self, tree, leaves, conds):
        before = tree.told()
        got = woven(tree, self.schema)
        self.same((type(got), len(got)), (tuple, 3))
        self.same((told(got[0]), told(got[1])), (told(leaves), told(conds)))
        self.assertIs(type(got[2]), list)
        form = one_form(self.names(tree), leaves, conds)
        self.same(walked(tree, got[2], self.schema).told(), form.told())
        self.assertIs(shows(tree, got[2], form, self.schema), True)
        self.same(tree.told(), before)

    def leads(self, form, target):
        before = (form.told(), target.told())
        steps = steps_to(form, target, self.schema)
        self.assertIs(type(steps), list)
        wanted = Keep(form.kept, target)
        self.same(walked(form, steps, self.schema).told(), wanted.told())
        self.assertIs(shows(form, steps, wanted, self.schema), True)
        self.same((form.told(), target.told()), before)
        return steps


class OneFormTest(Case):
    def test_forms(self):
        for names, leaves, conds, form in (
                (P_ALL, [P], [], Keep(P_ALL, P)),
                (["p.id"], [P], [OLD], Keep(["p.id"], Choose(OLD, P))),
                (["p.id"], [P], [OLD, YOUNG], Keep(["p.id"], Choose(OLD, Choose(YOUNG, P)))),
                (P_ALL + C_ALL, [P, C], [], Keep(P_ALL + C_ALL, Product(P, C))),
                (C_ALL, [C, P, D], [LIKE, OLD, SIZES],
                 Keep(C_ALL, Choose(LIKE, Choose(OLD, Choose(SIZES, Product(Product(C, P), D)))))),
                (["r.id"], [P, C, Q, D, R], [],
                 Keep(["r.id"], Product(Product(Product(Product(P, C), Q), D), R)))):
            self.same(one_form(names, leaves, conds).told(), form.told())

    def test_lists_that_are_changed_behind(self):
        names, leaves, conds = ["p.id"], [P, C], [LIKE, OLD]
        form = one_form(names, leaves, conds)
        before = form.told()
        self.same((names, told(leaves), told(conds)), (["p.id"], told([P, C]), told([LIKE, OLD])))
        for thing in (names, leaves, conds):
            thing.clear()
        self.same(form.told(), before)


class WovenTest(WeavingCase):
    def test_one_leaf(self):
        self.weaves(Choose(OLD, P), [P], [OLD])
        self.weaves(Keep(["p.id"], P), [P], [])
        self.weaves(Keep(["p.id"], Keep(["p.age", "p.id"], P)), [P], [])
        self.weaves(Choose(OLD, Choose(YOUNG, P)), [P], [OLD, YOUNG])
        self.weaves(Keep(["p.id"], Choose(OLD, Keep(["p.id", "p.age"], Choose(YOUNG, P)))), [P], [OLD, YOUNG])

    def test_conditions_are_parted(self):
        either = Or(And(OLD, YOUNG), OLD)
        self.weaves(Choose(And(OLD, YOUNG), P), [P], [OLD, YOUNG])
        self.weaves(Choose(And(And(OLD, YOUNG), And(either, Not(OLD))), P), [P], [OLD, YOUNG, either, Not(OLD)])
        self.weaves(Choose(And(OLD, And(YOUNG, And(either, OLD))), Keep(P_ALL, P)), [P], [OLD, YOUNG, either, OLD])
        self.weaves(Choose(And(And(And(OLD, YOUNG), either), OLD), Choose(And(YOUNG, OLD), P)), [P],
                    [OLD, YOUNG, either, OLD, YOUNG, OLD])
        self.weaves(Choose(Not(And(OLD, YOUNG)), P), [P], [Not(And(OLD, YOUNG))])

    def test_products(self):
        self.weaves(Product(P, C), [P, C], [])
        self.weaves(Product(P, Product(C, D)), [P, C, D], [])
        self.weaves(Product(Product(P, C), Product(D, Q)), [P, C, D, Q], [])
        self.weaves(Product(P, Product(C, Product(D, Product(Q, R)))), [P, C, D, Q, R], [])
        self.weaves(Product(P, Product(Product(C, D), Product(Q, R))), [P, C, D, Q, R], [])
        self.weaves(Product(Product(Product(Product(P, C), D), Q), R), [P, C, D, Q, R], [])

    def test_conditions_beneath_products(self):
        self.weaves(Product(Choose(OLD, P), C), [P, C], [OLD])
        self.weaves(Product(C, Choose(And(OLD, YOUNG), P)), [C, P], [OLD, YOUNG])
        self.weaves(Choose(LIKE, Product(Choose(OLD, Choose(YOUNG, P)), Choose(LARGE, C))), [P, C],
                    [LIKE, OLD, YOUNG, LARGE])
        self.weaves(Choose(SIZES, Product(D, Choose(LIKE, Product(Choose(OLD, P), Choose(LARGE, C))))), [D, P, C],
                    [SIZES, LIKE, OLD, LARGE])

    def test_keeps_beneath_products(self):
        self.weaves(Product(Keep(["p.id"], P), C), [P, C], [])
        self.weaves(Product(P, Keep(["c.size"], C)), [P, C], [])
        self.weaves(Product(Keep(["p.id"], P), Keep(["c.size"], C)), [P, C], [])
        self.weaves(Keep(["c.size"], Product(Keep(["p.id"], Choose(OLD, P)), Keep(["c.size"], Choose(LARGE, C)))),
                    [P, C], [OLD, LARGE])
        self.weaves(Choose(LESS, Product(Product(D, Keep(["p.age"], P)), Keep(["c.size"], Choose(LARGE, C)))),
                    [D, P, C], [LESS, LARGE])
        self.weaves(Product(Product(Keep(["p.id"], P), D), Product(Keep(["c.size"], C), Keep(["q.id"], Q))),
                    [P, D, C, Q], [])

    def test_leaves_that_are_no_scans(self):
        group, sort, first = Group(["q.id"], [COUNT], Q), Sort([("c.size", True)], C), First(2, Product(D, R))
        for leaf in (group, sort, first):
            names = self.names(leaf)
            self.weaves(Keep(names[:1], leaf), [leaf], [])
            self.weaves(Choose(column(names[0], "=", names[0]), leaf), [leaf], [column(names[0], "=", names[0])])
            self.weaves(Product(leaf, P), [leaf, P], [])
            self.weaves(Product(P, Keep(names[:1], leaf)), [P, leaf], [])
        self.weaves(Product(first, Product(Choose(value("many", ">", 1), group), sort)), [first, group, sort],
                    [value("many", ">", 1)])
        inner = First(2, Choose(OLD, Keep(P_ALL, P)))
        self.weaves(Choose(YOUNG, inner), [inner], [YOUNG])

    def test_lists_told_are_the_askers_own(self):
        tree = Choose(And(OLD, LIKE), Product(P, C))
        wanted = woven(tree, self.schema)
        for thing in woven(tree, self.schema):
            thing.clear()
        got = woven(tree, self.schema)
        self.same((told(got[0]), told(got[1]), got[2]), (told(wanted[0]), told(wanted[1]), wanted[2]))

    def test_trees_by_chance(self):
        chance = random.Random(5)
        many = 0
        for turn in range(400):
            growth = Growth(chance, 5)
            tree = growth.over(chance.choice([Choose, Keep]), growth.tree(7))
            if chance.random() < 0.5 and growth.scans > 1:
                growth.scans -= 1
                tree = Product(tree, growth.tree(4))
            self.weaves(tree, leaves_of(tree), conds_of(tree))
            many += len(leaves_of(tree)) > 2 and len(conds_of(tree)) > 2
        self.assertGreater(many, 40)

    def test_a_deep_chain(self):
        tree = P
        for turn in range(11):
            tree = Keep(P_ALL, tree) if turn % 2 else Choose(And(OLD, YOUNG), tree)
        self.weaves(tree, [P], [OLD, YOUNG] * 6)


class StepsToTest(WeavingCase):
    def test_the_same_shape(self):
        for leaves, conds in (([P], []), ([P], [OLD, YOUNG]), ([P, C], []), ([P, C, D], [LIKE, SIZES])):
            form = one_form(["p.id"], leaves, conds)
            self.same(self.leads(form, form.part), [])

    def test_conditions_in_another_order(self):
        form = one_form(["p.id"], [P], [OLD, YOUNG, value("p.id", "=", 3)])
        last = value("p.id", "=", 3)
        for one, other, third in ((OLD, YOUNG, last), (OLD, last, YOUNG), (YOUNG, OLD, last), (YOUNG, last, OLD),
                                  (last, OLD, YOUNG), (last, YOUNG, OLD)):
            self.leads(form, Choose(one, Choose(other, Choose(third, P))))

    def test_leaves_in_another_order(self):
        form = one_form(["c.size", "p.id"], [P, C], [LIKE])
        self.leads(form, Choose(LIKE, Product(C, P)))
        form = one_form(["c.size", "p.id"], [P, C, D], [LIKE, SIZES])
        for one, other, third in ((P, C, D), (P, D, C), (C, P, D), (C, D, P), (D, P, C), (D, C, P)):
            self.leads(form, Choose(LIKE, Choose(SIZES, Product(Product(one, other), third))))
            self.leads(form, Choose(SIZES, Choose(LIKE, Product(one, Product(other, third)))))

    def test_conditions_above_their_leaves(self):
        form = one_form(["p.id"], [P, C, D], [OLD, LIKE, LARGE, SIZES, YOUNG])
        self.leads(form, Choose(SIZES, Product(Choose(LIKE, Product(Choose(OLD, Choose(YOUNG, P)), Choose(LARGE, C))),
                                               D)))
        self.leads(form, Choose(LIKE, Product(Choose(OLD, Choose(YOUNG, P)), Choose(SIZES, Choose(LARGE, Product(C,
                                                                                                                 D))))))
        self.leads(form, Choose(OLD, Choose(LIKE, Product(Choose(SIZES, Product(D, Choose(LARGE, C))),
                                                          Choose(YOUNG, P)))))

    def test_mirrored_conditions(self):
        for sign in ("=", "<>", "<", "<=", ">", ">="):
            cond = column("p.age", sign, "c.size")
            form = one_form(["p.id"], [P, C], [OLD, cond])
            steps = self.leads(form, Choose(mirror(cond), Product(C, Choose(OLD, P))))
            self.assertIn("mirror", [word for word, path in steps])
            self.leads(form, Choose(mirror(cond), Choose(OLD, Product(P, C))))
            self.leads(form, Choose(cond, Product(C, Choose(OLD, P))))

    def test_alike_conditions_and_mirrored_ones_side_by_side(self):
        back = mirror(LESS)
        form = one_form(["p.id"], [P, C], [LESS, back, LESS, OLD, OLD])
        for conds in ([LESS, LESS, LESS], [back, back, back], [back, LESS, back], [LESS, back, LESS]):
            tree = Product(Choose(OLD, Choose(OLD, P)), C)
            for cond in conds:
                tree = Choose(cond, tree)
            self.leads(form, tree)
        same = column("p.id", "=", "p.id")
        self.leads(one_form(["p.id"], [P, C], [same, LIKE]), Choose(LIKE, Product(C, Choose(same, P))))

    def test_conditions_that_are_ands(self):
        both = And(OLD, And(YOUNG, OLD))
        form = one_form(["p.id"], [P, C], [both, LIKE, OLD])
        self.leads(form, form.part)
        self.leads(form, Choose(mirror(LIKE), Product(C, Choose(OLD, Choose(both, P)))))
        self.leads(form, Choose(both, Choose(OLD, Choose(LIKE, Product(P, C)))))

    def test_leaves_that_are_no_scans(self):
        group, first = Group(["q.id"], [COUNT], Q), First(2, Sort([("d.size", True)], D))
        cond = column("many", "=", "d.size")
        form = one_form(["many", "d.size"], [group, P, first], [cond, OLD])
        self.leads(form, Choose(OLD, Product(Choose(cond, Product(first, group)), P)))
        self.leads(form, Choose(mirror(cond), Product(group, Product(Choose(OLD, P), first))))
        self.leads(one_form(["many"], [group], [value("many", "=", 1)]), Choose(value("many", "=", 1), group))
        self.leads(one_form(["d.size"], [first], []), first)

    def test_five_leaves_and_many_conditions(self):
        leaves = [P, C, D, Q, R]
        conds = [LIKE, SIZES, column("q.id", "=", "p.id"), column("r.age", ">", "q.age"), OLD, YOUNG, LARGE] * 5
        form = one_form(["r.id", "c.size"], leaves, conds)
        tree = Product(R, Product(Q, Product(D, Product(C, P))))
        for cond in conds:
            tree = Choose(mirror(cond) if cond.right[0] == "column" else cond, tree)
        self.assertLessEqual(len(self.leads(form, tree)), 4000)

    def shapes(self, leaves):
        if len(leaves) == 1:
            return [leaves[0]]
        return [Product(one, other) for cut in range(1, len(leaves)) for one in self.shapes(leaves[:cut])
                for other in self.shapes(leaves[cut:])]

    def test_each_order_and_shape_of_four_leaves(self):
        conds = [LIKE, SIZES, column("q.id", "<", "p.age")]
        form = one_form(["d.size", "p.id"], [P, C, D, Q], conds)
        seen = set()
        for leaves in itertools.permutations([P, C, D, Q]):
            for tree in self.shapes(leaves):
                for cond in conds:
                    tree = Choose(cond, tree)
                self.leads(form, tree)
                seen.add(tree.told())
        self.same(len(seen), 24 * 5)

    def shaped(self, chance, leaves):
        if len(leaves) == 1:
            return leaves[0]
        cut = chance.randint(1, len(leaves) - 1)
        return Product(self.shaped(chance, leaves[:cut]), self.shaped(chance, leaves[cut:]))

    def dropped(self, chance, tree, cond):
        """The condition somewhere in the tree above leaves that have all its names."""
        if isinstance(tree, (Choose, Product)) and chance.random() < 0.8:
            for number, part in enumerate(tree.parts()):
                if set(cond.names_in()) <= set(self.names(part)):
                    parts = tree.parts()
                    parts[number] = self.dropped(chance, part, cond)
                    return tree.with_parts(parts)
        if cond.told()[0] == "compare" and cond.right[0] == "column" and chance.random() < 0.4:
            cond = mirror(cond)
        return Choose(cond, tree)

    def test_targets_by_chance(self):
        chance = random.Random(9)
        for turn in range(300):
            growth = Growth(chance, 1)
            leaves = [Scan(chance.choice(["people", "cities"]), growth.new_name("t")) for leaf in range(
                chance.randint(1, 5))]
            leaves = [growth.over(chance.choice([Group, Sort, First]), leaf) if chance.random() < 0.2 else leaf
                      for leaf in leaves]
            columns = [named for leaf in leaves for named in leaf.columns_told(self.schema)]
            conds = [growth.cond(columns, chance.choice([1, 1, 2])) for cond in range(chance.randrange(7))]
            conds = [part for cond in conds for part in conds_of(Choose(cond, P))]
            form = one_form(growth.some([name for name, kind in columns]), leaves, conds)
            target = self.shaped(chance, chance.sample(leaves, len(leaves)))
            for cond in chance.sample(conds, len(conds)):
                target = self.dropped(chance, target, cond)
            self.leads(form, target)
            if turn < 60 and len(leaves) < 4:
                reader = reader_of(rows_by(chance, 4))
                self.same(plain_answer(Keep(form.kept, target), self.schema, reader),
                          plain_answer(form, self.schema, reader))

    def test_steps_told_are_the_askers_own(self):
        form = one_form(["p.id"], [P, C], [LIKE, OLD])
        target = Choose(mirror(LIKE), Product(C, Choose(OLD, P)))
        steps = steps_to(form, target, self.schema)
        steps_to(form, target, self.schema).clear()
        self.same(steps_to(form, target, self.schema), steps)


if __name__ == "__main__":
    unittest.main()
