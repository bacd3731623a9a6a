"""Papers of steps [96] to [98], that they keep the answer [8], and [3], [4] of them."""

import random
import unittest

from helper import AlikeToAll, Case, Growth, ODD_THINGS, reader_of, rows_by, small_schema
from planstore.conditions import And, Compare, Not
from planstore.errors import NoStep
from planstore.papers import at_path, put_at, shows, step_done, walked
from planstore.plain import plain_answer
from planstore.rules import rule_by, rules_told
from planstore.trees import Choose, First, Group, Keep, Product, Scan, Sort

ROWS = {
    "people": [(-2, "oslo", 30), (1, "bergen", 9), (3, "oslo", 12), (5, "oslo", 30), (7, "rome", 30)],
    "cities": [("bergen", 3), ("oslo", 9), ("paris", 9), ("rome", 1)],
}
P, Q, C, D = Scan("people", "p"), Scan("people", "q"), Scan("cities", "c"), Scan("cities", "d")
P_ALL, C_ALL, D_ALL = ("p.id", "p.city", "p.age"), ("c.name", "c.size"), ("d.name", "d.size")
OLD = Compare("p.age", ">", ("value", 11))
YOUNG = Compare("p.id", "<", ("value", 6))
LARGE = Compare("c.size", ">=", ("value", 3))
LIKE = Compare("p.city", "=", ("column", "c.name"))
EKIL = Compare("c.name", "=", ("column", "p.city"))
COUNT = ("count", None, "many")
DOWN = [("p.age", True)]
PC = Product(P, C)

# For each rule a tree to which it can be put, and what comes of it.
PUT = {
    "part": (Choose(And(OLD, YOUNG), P), Choose(OLD, Choose(YOUNG, P))),
    "unite": (Choose(OLD, Choose(YOUNG, P)), Choose(And(OLD, YOUNG), P)),
    "swap": (Choose(OLD, Choose(YOUNG, P)), Choose(YOUNG, Choose(OLD, P))),
    "clear": (Choose(Not(Not(OLD)), P), Choose(OLD, P)),
    "mirror": (Choose(LIKE, PC), Choose(EKIL, PC)),
    "intoone": (Choose(OLD, PC), Product(Choose(OLD, P), C)),
    "intoother": (Choose(LARGE, PC), Product(P, Choose(LARGE, C))),
    "outofone": (Product(Choose(OLD, P), C), Choose(OLD, PC)),
    "outofother": (Product(P, Choose(LARGE, C)), Choose(LARGE, PC)),
    "undergroup": (Choose(OLD, Group(["p.age"], [COUNT], P)), Group(["p.age"], [COUNT], Choose(OLD, P))),
    "keepone": (Product(Keep(["p.id"], P), C), Keep(("p.id",) + C_ALL, PC)),
    "keepother": (Product(P, Keep(["c.size"], C)), Keep(P_ALL + ("c.size",), PC)),
    "keepup": (Choose(OLD, Keep(["p.age"], P)), Keep(["p.age"], Choose(OLD, P))),
    "keepdown": (Keep(["p.age"], Choose(OLD, P)), Choose(OLD, Keep(["p.age"], P))),
    "keeponce": (Keep(["p.id"], Keep(["p.age", "p.id"], P)), Keep(["p.id"], P)),
    "keepall": (Keep(P_ALL, P), P),
    "keepnone": (P, Keep(P_ALL, P)),
    "turn": (PC, Keep(P_ALL + C_ALL, Product(C, P))),
    "regroupone": (Product(P, Product(C, D)), Product(Product(P, C), D)),
    "regroupother": (Product(Product(P, C), D), Product(P, Product(C, D))),
    "sortgone": (Choose(OLD, Sort(DOWN, P)), Choose(OLD, P)),
    "firsts": (First(3, First(2, P)), First(2, P)),
}
# What may stand above a tree over some of these scans: each with the path to the tree beneath it.
ABOVE = [
    (lambda tree: tree, ()),
    (lambda tree: First(3, tree), (0,)),
    (lambda tree: Product(tree, Q), (0,)),
    (lambda tree: Product(Q, tree), (1,)),
    (lambda tree: First(9, Group([], [COUNT], Product(Q, First(2, tree)))), (0, 0, 1, 0)),
]
# Where the parts of a told node stand in its tuple.
PLACES = {"scan": (), "choose": (2,), "keep": (2,), "product": (1, 2), "group": (3,), "sort": (2,), "first": (2,)}


def paths_in(told, path=()):
    """All paths in a told tree, each with what is told of the node there."""
    found = [(path, told)]
    for number, place in enumerate(PLACES[told[0]]):
        found.extend(paths_in(told[place], path + (number,)))
    return found


def replaced(told, path, new):
    if not path:
        return new
    place = PLACES[told[0]][path[0]]
    return told[:place] + (replaced(told[place], path[1:], new),) + told[place + 1:]


def deep_tree(deep):
    tree = P
    for turn in range(deep - 1):
        tree = Choose(OLD if turn % 2 else YOUNG, tree)
    return tree


def wide_tree(scans):
    """So many scans and firsts of them, and products over them as flat as they can be."""
    trees = [First(turn, Scan("cities", "x" + "abcdefghij"[turn // 10] + "abcdefghij"[turn % 10]))
             for turn in range(scans)]
    while len(trees) > 1:
        pairs = [Product(*trees[turn:turn + 2]) for turn in range(0, len(trees) - 1, 2)]
        trees = pairs + trees[2 * len(pairs):]
    return trees[0]


class PathTest(Case):
    def test_paths_to_each_node(self):
        choose = Choose(OLD, P)
        sort = Sort([("c.size", False)], C)
        product = Product(choose, sort)
        group = Group(["p.id"], [], First(4, product))
        nodes = {(): group, (0,): group.part, (0, 0): product, (0, 0, 0): choose, (0, 0, 1): sort, (0, 0, 0, 0): P,
                 (0, 0, 1, 0): C}
        for path, node in nodes.items():
            self.same(at_path(group, path).told(), node.told())
        self.same(len(paths_in(group.told())), len(nodes))

    def test_paths_that_lead_to_none(self):
        tree = Keep(["p.id"], PC)
        for path in ((1,), (-1,), (0, 2), (0, -1), (0, 0, 0), (0, 1, 0), (2,), (10 ** 39,), (0, 10 ** 39)):
            self.assertIsNone(at_path(tree, path))
            self.assertIsNone(put_at(tree, path, P))
        self.assertIsNone(at_path(P, (0,)))
        self.assertIsNone(put_at(P, (0,), Q))

    def test_things_that_are_no_paths(self):
        tree = Keep(["p.id"], PC)
        odd = [thing for thing in ODD_THINGS if not isinstance(thing, tuple)]
        odd += [[0], [0, 1], "0", "00", range(1), {0: 0}, AlikeToAll()]
        odd += [(True,), (False,), (0, True), (0, False), (0.0,), (0, 1.0), ("0",), (None,), ((),), ((0,),), ([0],),
                (0, [1]), (AlikeToAll(),), (0, {}), (b"0",), (0, "one")]
        for path in odd:
            self.assertIsNone(at_path(tree, path))
            self.assertIsNone(put_at(tree, path, P))
            self.assertIsNone(at_path(P, path))

    def test_another_tree_is_put_there(self):
        tree = First(2, Product(Choose(OLD, P), C))
        told = tree.told()
        for path, wanted in (((), Q), ((0,), First(2, Q)), ((0, 0), First(2, Product(Q, C))),
                             ((0, 1), First(2, Product(Choose(OLD, P), Q))),
                             ((0, 0, 0), First(2, Product(Choose(OLD, Q), C)))):
            self.same(put_at(tree, path, Q).told(), wanted.told())
            self.same(tree.told(), told)

    def test_nodes_of_trees_by_chance(self):
        chance = random.Random(5)
        for turn in range(150):
            growth = Growth(chance, 4)
            tree, other = growth.tree(6), growth.tree(3)
            told = tree.told()
            for path, node in paths_in(told):
                self.same(at_path(tree, path).told(), node)
                self.same(put_at(tree, path, other).told(), replaced(told, path, other.told()))
            self.same(tree.told(), told)

    def test_deep_and_wide_trees(self):
        for tree in (deep_tree(60), wide_tree(66), deep_tree(70), wide_tree(50)):
            told = tree.told()
            paths = paths_in(told)
            for path, node in paths:
                self.same(at_path(tree, path).told(), node)
            longest = max([path for path, node in paths], key=len)
            self.same(put_at(tree, longest, Q).told(), replaced(told, longest, Q.told()))


class PapersCase(Case):
    def setUp(self):
        self.schema = small_schema()
        self.reader = reader_of(ROWS)

    def answer(self, tree):
        return plain_answer(tree, self.schema, self.reader)

    def alike(self, one, other):
        self.same(one.columns_told(self.schema), other.columns_told(self.schema))
        self.same(self.answer(one), self.answer(other))

    def shown(self, tree, steps, wanted):
        before = (tree.told(), list(steps))
        self.same(walked(tree, steps, self.schema).told(), wanted.told())
        self.assertIs(shows(tree, steps, wanted, self.schema), True)
        self.same((tree.told(), steps), before)
        self.alike(tree, wanted)


class StepTest(PapersCase):
    def test_each_rule_at_the_top_and_deep(self):
        self.same(sorted(PUT), sorted(rules_told()))
        for word, (tree, wanted) in PUT.items():
            for above, path in ABOVE:
                whole = above(tree)
                told = whole.told()
                got = step_done(whole, (word, path), self.schema)
                self.same(got.told(), above(wanted).told())
                self.same(whole.told(), told)
                self.alike(got, whole)

    def test_rules_that_cant_be_put_there(self):
        for word in rules_told():
            if word not in ("keepnone",):
                self.assertIsNone(step_done(P, (word, ()), self.schema))
                self.assertIsNone(step_done(First(1, Group([], [COUNT], P)), (word, (0, 0)), self.schema))
        for path in ((), (0,)):
            self.assertIsNone(step_done(First(1, Sort(DOWN, P)), ("keepnone", path), self.schema))
        tree = Keep(["p.id"], Choose(OLD, P))
        for word in ("keepdown", "keepall", "keeponce", "part", "turn"):
            self.assertIsNone(step_done(tree, (word, ()), self.schema))

    def test_a_rule_is_put_to_the_node_and_to_no_other(self):
        tree = First(2, Choose(And(OLD, YOUNG), P))
        self.assertIsNone(step_done(tree, ("part", ()), self.schema))
        self.assertIsNone(step_done(tree, ("part", (0, 0)), self.schema))
        self.assertIsNotNone(step_done(tree, ("part", (0,)), self.schema))

    def test_things_that_are_no_steps(self):
        tree = First(2, Choose(And(OLD, YOUNG), P))
        for thing in ODD_THINGS + [["part", (0,)], ("part",), ("part", (0,), ()), ("part", [0]), ("part", 0),
                                   ("part", "0"), ("part", None), ((0,), "part"), "part", ("part", (False,)),
                                   ("part", (0.0,)), ("part", (1,)), ("part", (0, 0, 0)), ("PART", (0,)),
                                   ("part ", (0,)), ("", (0,)), (None, (0,)), (["part"], (0,)), (("part",), (0,)),
                                   (b"part", (0,)), (True, (0,)), (AlikeToAll(), (0,)), AlikeToAll(),
                                   ("part", AlikeToAll()), {"part": (0,)}, {0: "part", 1: (0,)}]:
            self.assertIsNone(step_done(tree, thing, self.schema))
            self.refused(NoStep, {"place": 0}, walked, tree, [thing], self.schema)
            self.assertIs(shows(tree, [thing], tree, self.schema), False)


class PaperTest(PapersCase):
    def test_without_steps(self):
        for tree in (P, Sort(DOWN, PC), First(0, P)):
            self.shown(tree, [], tree)
        self.assertIs(shows(P, [], Q, self.schema), False)

    def test_a_condition_goes_down_to_its_table(self):
        tree = Choose(LIKE, Choose(OLD, Choose(LARGE, PC)))
        steps = [("swap", (0,)), ("intoother", (0, 0)), ("swap", ()), ("swap", ())]
        self.refused(NoStep, {"place": 1}, walked, tree, steps, self.schema)
        steps = [("swap", (0,)), ("intoone", (0, 0)), ("intoother", (0,))]
        self.shown(tree, steps, Choose(LIKE, Product(Choose(OLD, P), Choose(LARGE, C))))

    def test_a_product_turned_beneath_others(self):
        tree = Keep(["c.size", "p.id"], Choose(LIKE, PC))
        steps = [("turn", (0, 0)), ("keepup", (0,)), ("keeponce", ()), ("mirror", (0,))]
        self.shown(tree, steps, Keep(["c.size", "p.id"], Choose(EKIL, Product(C, P))))

    def test_leaves_regrouped(self):
        tree = Product(Product(P, C), D)
        steps = [("regroupother", ()), ("turn", (1,)), ("keepother", ()), ("regroupone", (0,))]
        self.shown(tree, steps, Keep(P_ALL + C_ALL + D_ALL, Product(Product(P, D), C)))

    def test_sorts_and_firsts(self):
        tree = First(5, First(2, Sort(DOWN, Sort([("p.id", False)], Choose(And(OLD, YOUNG), P)))))
        steps = [("firsts", ()), ("sortgone", (0,)), ("part", (0, 0)), ("swap", (0, 0))]
        self.shown(tree, steps, First(2, Sort(DOWN, Choose(YOUNG, Choose(OLD, P)))))

    def test_steps_there_and_back(self):
        self.shown(Choose(OLD, PC), [("intoone", ()), ("outofone", ())] * 40, Choose(OLD, PC))
        self.shown(P, [("keepnone", ()), ("keepall", ())] * 500, P)

    def test_the_first_step_that_cant_be_put(self):
        steps = [("keepnone", ()), ("keepall", ()), ("keepnone", ()), ("keepnone", (0,)), ("keeponce", ())]
        walked(P, steps, self.schema)
        for place in range(len(steps) + 1):
            for wrong in (("nosuch", ()), ("part", ()), ("keepall", (3,)), None, ["keepnone", ()], ("keepnone", [])):
                paper = steps[:place] + [wrong] + steps[place:] + [("nosuch", ())]
                self.refused(NoStep, {"place": place}, walked, P, paper, self.schema)
                self.assertIs(shows(P, paper, P, self.schema), False)

    def test_things_that_are_no_papers(self):
        for thing in ODD_THINGS + [(("keepnone", ()),), (), {0: ("keepnone", ())}, "keepnone", ("keepnone", ()),
                                   iter([("keepnone", ())]), AlikeToAll(), ["keepnone", ()], [[("keepnone", ())]]]:
            self.assertIs(shows(P, thing, Keep(P_ALL, P), self.schema), False)
            if thing != []:
                self.assertIs(shows(P, thing, P, self.schema), False)

    def test_another_tree_is_not_shown(self):
        tree = Choose(OLD, Choose(YOUNG, P))
        swapped = Choose(YOUNG, Choose(OLD, P))
        self.assertIs(shows(tree, [("swap", ())], swapped, self.schema), True)
        for other in (tree, P, Choose(YOUNG, Choose(OLD, Q)), Choose(YOUNG, P), Choose(And(YOUNG, OLD), P),
                      First(1000, swapped), Keep(P_ALL, swapped)):
            self.assertIs(shows(tree, [("swap", ())], other, self.schema), False)
        self.assertIs(shows(tree, [("swap", ())] * 2, tree, self.schema), True)

    def test_what_is_handed_in_stays(self):
        steps = [("keepnone", ()), ("keepall", ())]
        behind = walked(P, steps[:1], self.schema)
        told = behind.told()
        steps.clear()
        self.same(behind.told(), told)
        paper = [("keepnone", ()), None]
        self.refused(NoStep, {"place": 1}, walked, P, paper, self.schema)
        self.same(paper, [("keepnone", ()), None])

    def test_deep_and_wide_trees(self):
        tree = deep_tree(60)
        path = (0,) * 57
        steps = [("swap", path), ("unite", path), ("part", path)]
        deepest = at_path(tree, path)
        wanted = put_at(tree, path, Choose(deepest.part.cond, Choose(deepest.cond, P)))
        self.shown(tree, steps, wanted)
        wide = wide_tree(64)
        self.same(len(paths_in(wide.told())), 191)
        steps = [("turn", (number,) * 5) for number in (0, 1)] + [("keepother", (1,) * 4), ("keepone", (0,) * 4)]
        behind = walked(wide, steps, self.schema)
        self.same(behind.columns_told(self.schema), wide.columns_told(self.schema))
        self.assertIs(shows(wide, steps, behind, self.schema), True)
        self.refused(NoStep, {"place": 4}, walked, wide, steps + [("turn", (0,) * 7)], self.schema)

    def test_a_paper_that_grows_a_tree_beyond_a_question(self):
        steps = [("keepnone", ())] * 55
        behind = walked(P, steps, self.schema)
        self.same(len(paths_in(behind.told())), 56)
        self.alike(behind, P)
        self.shown(P, steps + [("keeponce", ())] * 54 + [("keepall", ())], P)


class ByChanceTest(PapersCase):
    def test_papers_keep_columns_and_answer(self):
        chance = random.Random(77)
        put = {word: 0 for word in rules_told()}
        for turn in range(120):
            self.reader = reader_of(rows_by(chance))
            tree = Growth(chance, 3).tree(6)
            behind, steps = tree, []
            for step in range(12):
                ways = [(word, path) for path, node in paths_in(behind.told()) for word in put
                        if rule_by(word).applied(at_path(behind, path), self.schema) is not None]
                counts = [1 / (1 + put[word]) for word, path in ways]
                steps.append(chance.choices(ways, counts)[0] if ways else None)
                if steps[-1] is None:
                    steps.pop()
                    break
                word, path = steps[-1]
                put[word] += 1
                after = rule_by(word).applied(at_path(behind, path), self.schema).told()
                wanted = replaced(behind.told(), path, after)
                behind = step_done(behind, steps[-1], self.schema)
                self.same(behind.told(), wanted)
            self.shown(tree, steps, behind)
        self.assertGreater(min(put.values()), 3, put)


if __name__ == "__main__":
    unittest.main()
