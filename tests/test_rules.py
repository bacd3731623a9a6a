"""Rules [91] to [95], that they keep the answer [8], and [4] of them."""

import random
import unittest

from helper import Case, Growth, ODD_THINGS, SIGNS, column, small_schema, value
from planstore.conditions import And, Not, Or
from planstore.makes import Makes
from planstore.plain import plain_answer
from planstore.readers import AtMake
from planstore.rules import Rule, rule_by, rules_told
from planstore.schema import schema_in
from planstore.trees import Choose, First, Group, Keep, Product, Scan, Sort

WORDS = ["part", "unite", "swap", "clear", "mirror", "intoone", "intoother", "outofone", "outofother", "undergroup",
         "keepone",
         "keepother", "keepup", "keepdown", "keeponce", "keepall", "keepnone", "turn", "regroupone", "regroupother",
         "sortgone", "firsts"]
ROWS = {
    "people": [(-2, "oslo", 30), (1, "bergen", 9), (3, "oslo", 12), (5, "oslo", 30), (7, "rome", 30)],
    "cities": [("bergen", 3), ("oslo", 9), ("paris", 9), ("rome", 1)],
}
P, Q, C = Scan("people", "p"), Scan("people", "q"), Scan("cities", "c")
P_ALL, Q_ALL, C_ALL = (tuple(f"{alias}.{name}" for name in names) for alias, names in (
    ("p", ("id", "city", "age")), ("q", ("id", "city", "age")), ("c", ("name", "size"))))
COUNT = ("count", None, "many")


OLD = value("p.age", ">", 11)
YOUNG = value("p.id", "<", 6)
LARGE = value("c.size", ">=", 3)
LIKE = column("p.city", "=", "c.name")
DOWN = [("p.age", True)]


class RulesCase(Case):
    def setUp(self):
        self.schema = small_schema()
        self.reader = AtMake(Makes(self.schema, ROWS), 0)

    def answer(self, tree):
        return plain_answer(tree, self.schema, self.reader)

    def becomes(self, word, tree, wanted):
        told = tree.told()
        got = rule_by(word).applied(tree, self.schema)
        self.same(got.told(), wanted.told())
        self.same(tree.told(), told)
        self.same(got.columns_told(self.schema), tree.columns_told(self.schema))
        self.same(self.answer(got), self.answer(tree))

    def never(self, word, *trees):
        for tree in trees:
            tree.columns_told(self.schema)
            self.assertIsNone(rule_by(word).applied(tree, self.schema))


class WordsTest(Case):
    def test_all_words_in_their_order(self):
        self.same(rules_told(), WORDS)
        rules_told().clear()
        self.same(rules_told(), WORDS)

    def test_a_rule_by_its_word(self):
        for word in WORDS:
            self.assertIsInstance(rule_by(word), Rule)
            self.same(rule_by(word).rule_word(), word)

    def test_whatever_else(self):
        for thing in ODD_THINGS + ["Part", "part ", " part", "par", "parts", "PART", ("part",), ["part"], b"part",
                                   "choose", "applied"]:
            self.assertIsNone(rule_by(thing))


class ChoosingTest(RulesCase):
    def test_part(self):
        self.becomes("part", Choose(And(OLD, YOUNG), P), Choose(OLD, Choose(YOUNG, P)))
        self.becomes("part", Choose(And(And(OLD, YOUNG), Or(OLD, YOUNG)), Sort(DOWN, P)),
                     Choose(And(OLD, YOUNG), Choose(Or(OLD, YOUNG), Sort(DOWN, P))))
        self.never("part", Choose(OLD, P), Choose(Or(OLD, YOUNG), P), Choose(Not(And(OLD, YOUNG)), P), P,
                   Keep(["p.age"], Choose(And(OLD, YOUNG), P)))

    def test_unite(self):
        self.becomes("unite", Choose(OLD, Choose(YOUNG, P)), Choose(And(OLD, YOUNG), P))
        self.becomes("unite", Choose(OLD, Choose(YOUNG, Choose(OLD, P))), Choose(And(OLD, YOUNG), Choose(OLD, P)))
        self.never("unite", Choose(OLD, P), P, Choose(OLD, Keep(P_ALL, Choose(YOUNG, P))),
                   Keep(P_ALL, Choose(YOUNG, P)))

    def test_swap(self):
        self.becomes("swap", Choose(OLD, Choose(YOUNG, P)), Choose(YOUNG, Choose(OLD, P)))
        self.becomes("swap", Choose(LIKE, Choose(LARGE, Product(P, C))), Choose(LARGE, Choose(LIKE, Product(P, C))))
        self.never("swap", Choose(OLD, P), P, Choose(OLD, First(1, Choose(YOUNG, P))), First(1, Choose(YOUNG, P)))

    def test_clear(self):
        self.becomes("clear", Choose(Not(And(OLD, Not(YOUNG))), P), Choose(Or(value("p.age", "<=", 11), YOUNG), P))
        self.becomes("clear", Choose(Not(Not(OLD)), P), Choose(OLD, P))
        self.becomes("clear", Choose(OLD, First(2, P)), Choose(OLD, First(2, P)))
        self.never("clear", P, Keep(P_ALL, Choose(Not(OLD), P)), Product(P, C))

    def test_mirror(self):
        for sign, other in (("=", "="), ("<>", "<>"), ("<", ">"), (">", "<"), ("<=", ">="), (">=", "<=")):
            self.becomes("mirror", Choose(column("p.id", sign, "p.age"), P), Choose(column("p.age", other, "p.id"), P))
            self.becomes("mirror", Choose(column("c.name", sign, "p.city"), Product(P, C)),
                         Choose(column("p.city", other, "c.name"), Product(P, C)))
            self.becomes("mirror", Choose(column("p.id", sign, "p.id"), P), Choose(column("p.id", other, "p.id"), P))
            self.never("mirror", Choose(value("p.id", sign, 3), P), Choose(value("p.city", sign, "oslo"), P))
        both = column("p.id", "<", "p.age")
        self.never("mirror", Choose(And(both, both), P), Choose(Not(both), P), P, Keep(P_ALL, Choose(both, P)))

    def test_into_one_and_into_other(self):
        self.becomes("intoone", Choose(OLD, Product(P, C)), Product(Choose(OLD, P), C))
        self.becomes("intoother", Choose(LARGE, Product(P, C)), Product(P, Choose(LARGE, C)))
        both = And(OLD, Not(column("p.id", "<", "p.age")))
        self.becomes("intoone", Choose(both, Product(Sort(DOWN, P), C)), Product(Choose(both, Sort(DOWN, P)), C))
        self.becomes("intoother", Choose(both, Product(C, First(3, P))), Product(C, Choose(both, First(3, P))))

    def test_names_on_one_side_on_both_on_the_other(self):
        for cond in (LIKE, And(OLD, LARGE), Or(LARGE, OLD), Not(LIKE)):
            self.never("intoone", Choose(cond, Product(P, C)), Choose(cond, Product(C, P)))
            self.never("intoother", Choose(cond, Product(P, C)), Choose(cond, Product(C, P)))
        self.never("intoone", Choose(LARGE, Product(P, C)), Choose(OLD, Product(C, P)), Choose(OLD, P), P,
                   Product(Choose(OLD, P), C),
                   Choose(OLD, Choose(OLD, Product(P, C))), Choose(OLD, Keep(P_ALL, Product(P, C))))
        self.never("intoother", Choose(OLD, Product(P, C)), Choose(LARGE, Product(C, P)), Choose(OLD, P), P,
                   Product(C, Choose(OLD, P)),
                   Choose(LARGE, Choose(OLD, Product(P, C))))

    def test_a_side_has_the_names_of_its_columns_alone(self):
        kept = Keep(["p.id"], P)
        self.never("intoone", Choose(LARGE, Product(kept, C)))
        self.becomes("intoone", Choose(YOUNG, Product(kept, C)), Product(Choose(YOUNG, kept), C))
        made = Group([], [COUNT], P)
        self.becomes("intoother", Choose(value("many", "=", 5), Product(C, made)),
                     Product(C, Choose(value("many", "=", 5), made)))

    def test_out_of_one_and_out_of_other(self):
        self.becomes("outofone", Product(Choose(OLD, P), C), Choose(OLD, Product(P, C)))
        self.becomes("outofother", Product(P, Choose(LARGE, C)), Choose(LARGE, Product(P, C)))
        both = Product(Choose(OLD, P), Choose(LARGE, C))
        self.becomes("outofone", both, Choose(OLD, Product(P, Choose(LARGE, C))))
        self.becomes("outofother", both, Choose(LARGE, Product(Choose(OLD, P), C)))
        self.becomes("outofone", Product(Choose(OLD, First(2, Sort(DOWN, P))), C),
                     Choose(OLD, Product(First(2, Sort(DOWN, P)), C)))
        self.never("outofone", Product(P, Choose(LARGE, C)), Product(P, C), P, Choose(OLD, P),
                   Product(Keep(P_ALL, Choose(OLD, P)), C))
        self.never("outofother", Product(Choose(OLD, P), C), Product(P, C), P, Product(P, First(1, Choose(LARGE, C))))

    def test_under_group(self):
        by_city = value("p.city", ">", "c")
        for sums in ([COUNT], [], [("sum", "p.age", "s"), ("least", "p.id", "a")]):
            self.becomes("undergroup", Choose(by_city, Group(["p.city", "p.age"], sums, P)),
                         Group(["p.city", "p.age"], sums, Choose(by_city, P)))
        many = value("many", ">", 1)
        group = Group(["p.city"], [COUNT], P)
        self.never("undergroup", Choose(many, group), Choose(And(by_city, many), group), group, Choose(by_city, P),
                   Choose(many, Group([], [COUNT], P)), Choose(by_city, Keep(["p.city"], group)))

    def test_under_group_looks_at_the_keys(self):
        # the new name is called like a column of the part, which is no key
        inner = Group(["p.city"], [COUNT], P)
        outer = Group(["p.city"], [("greatest", "many", "many")], inner)
        self.never("undergroup", Choose(value("many", ">", 1), outer))


class KeepingTest(RulesCase):
    def test_keep_one_and_keep_other(self):
        kept = Keep(["p.age", "p.city"], P)
        self.becomes("keepone", Product(kept, C), Keep(("p.age", "p.city") + C_ALL, Product(P, C)))
        self.becomes("keepother", Product(C, kept), Keep(C_ALL + ("p.age", "p.city"), Product(C, P)))
        sizes = Keep(["c.size"], C)
        self.becomes("keepone", Product(kept, sizes), Keep(["p.age", "p.city", "c.size"], Product(P, sizes)))
        self.becomes("keepother", Product(kept, sizes), Keep(["p.age", "p.city", "c.size"], Product(kept, C)))
        self.never("keepone", Product(P, sizes), Product(P, C), kept, Choose(OLD, kept), Product(First(3, kept), C))
        self.never("keepother", Product(kept, C), Product(P, C), kept, Product(C, Choose(OLD, kept)))

    def test_keep_up(self):
        kept = Keep(["p.age", "p.city"], P)
        self.becomes("keepup", Choose(OLD, kept), Keep(["p.age", "p.city"], Choose(OLD, P)))
        self.becomes("keepup", Choose(OLD, Keep(["p.age"], Sort([("p.id", True)], P))),
                     Keep(["p.age"], Choose(OLD, Sort([("p.id", True)], P))))
        self.never("keepup", kept, Choose(OLD, P), Keep(["p.age"], Choose(OLD, P)), Choose(OLD, First(1, kept)))

    def test_keep_down(self):
        self.becomes("keepdown", Keep(["p.city", "p.age"], Choose(OLD, P)), Choose(OLD, Keep(["p.city", "p.age"], P)))
        both = And(OLD, YOUNG)
        self.becomes("keepdown", Keep(["p.id", "p.age"], Choose(both, P)), Choose(both, Keep(["p.id", "p.age"], P)))
        self.never("keepdown", Keep(["p.id"], Choose(OLD, P)), Keep(["p.id"], Choose(both, P)),
                   Keep(["p.age"], Choose(both, P)),
                   Keep(["p.age"], P), Choose(OLD, Keep(["p.age"], P)),
                   Keep(["p.age"], Keep(["p.age"], Choose(OLD, P))))

    def test_keep_once(self):
        self.becomes("keeponce", Keep(["p.age"], Keep(["p.id", "p.age"], P)), Keep(["p.age"], P))
        self.becomes("keeponce", Keep(["p.city", "p.age"], Keep(["p.age", "p.city"], Keep(P_ALL, P))),
                     Keep(["p.city", "p.age"], Keep(P_ALL, P)))
        self.never("keeponce", Keep(["p.age"], P), P, Keep(["p.age"], Choose(OLD, Keep(P_ALL, P))))

    def test_keep_all(self):
        group = Group(["p.city"], [COUNT], P)
        for part in (P, Choose(OLD, P), Product(P, C), group, Keep(["p.age", "p.id"], P), Choose(OLD, Sort(DOWN, P))):
            names = [name for name, kind in part.columns_told(self.schema)]
            self.becomes("keepall", Keep(names, part), part)
        self.never("keepall", Keep(["p.id", "p.age", "p.city"], P), Keep(["p.id", "p.city"], P),
                   Keep(["c.size", "c.name"], C), P, Choose(OLD, P))
        self.never("keepall", Keep(P_ALL, Sort(DOWN, P)), Keep(P_ALL, First(2, P)),
                   Keep(P_ALL, First(2, Sort(DOWN, P))))

    def test_keep_none(self):
        group = Group(["p.city"], [COUNT], P)
        for part in (P, Choose(OLD, P), Product(P, C), group, Keep(["p.age", "p.id"], P), Keep(P_ALL, P),
                     Keep(P_ALL, Sort(DOWN, P))):
            names = [name for name, kind in part.columns_told(self.schema)]
            self.becomes("keepnone", part, Keep(names, part))
        self.never("keepnone", Sort(DOWN, P), First(2, P), First(2, Sort(DOWN, P)), Sort(DOWN, First(1, P)))


class OtherTest(RulesCase):
    def test_turn(self):
        self.becomes("turn", Product(P, C), Keep(P_ALL + C_ALL, Product(C, P)))
        self.becomes("turn", Product(C, Keep(["p.age", "p.id"], P)),
                     Keep(C_ALL + ("p.age", "p.id"), Product(Keep(["p.age", "p.id"], P), C)))
        self.becomes("turn", Product(First(2, Sort(DOWN, P)), C),
                     Keep(P_ALL + C_ALL, Product(C, First(2, Sort(DOWN, P)))))
        self.never("turn", P, Choose(OLD, Product(P, C)), Sort(DOWN, P), Keep(P_ALL, Product(P, C)))

    def test_regroup(self):
        right, left = Product(P, Product(Q, C)), Product(Product(P, Q), C)
        self.becomes("regroupone", right, left)
        self.becomes("regroupother", left, right)
        four = Product(Product(P, C), Product(Q, Scan("cities", "d")))
        self.becomes("regroupone", four, Product(Product(Product(P, C), Q), Scan("cities", "d")))
        self.becomes("regroupother", four, Product(P, Product(C, Product(Q, Scan("cities", "d")))))
        self.never("regroupone", left, P, Product(P, C), Choose(OLD, right), Product(P, Choose(LARGE, Product(Q, C))))
        self.never("regroupother", right, P, Product(P, C), Choose(OLD, left), Product(Choose(OLD, Product(P, Q)), C))

    def test_sort_gone(self):
        sort = Sort(DOWN, P)
        for over in (lambda part: Choose(OLD, part), lambda part: Keep(["p.age", "p.id"], part),
                     lambda part: Group(["p.city"], [COUNT], part),
                     lambda part: Group([], [("sum", "p.age", "s")], part),
                     lambda part: Sort([("p.city", False), ("p.id", True)], part)):
            self.becomes("sortgone", over(sort), over(P))
            self.becomes("sortgone", over(Sort([("p.id", True)], sort)), over(sort))
            self.becomes("sortgone", over(Sort([("p.id", True)], First(3, sort))), over(First(3, sort)))
            self.never("sortgone", over(P), over(First(2, sort)), over(Keep(P_ALL, sort)))
        self.never("sortgone", sort, P, First(2, sort), First(2, Sort([("p.id", True)], sort)))

    def test_sort_gone_of_a_product(self):
        sort, other = Sort(DOWN, P), Sort([("c.size", False)], C)
        self.becomes("sortgone", Product(sort, C), Product(P, C))
        self.becomes("sortgone", Product(P, other), Product(P, C))
        self.becomes("sortgone", Product(sort, other), Product(P, other))
        self.becomes("sortgone", Product(Sort([("p.id", False)], sort), other), Product(sort, other))
        self.never("sortgone", Product(P, C), Product(First(2, sort), C), Product(P, First(1, other)),
                   Product(Choose(OLD, sort), C))

    def test_firsts(self):
        for one, other in ((3, 2), (2, 3), (2, 2), (0, 5), (5, 0), (1000, 1), (1, 1000), (1000, 1000)):
            for part in (P, Sort(DOWN, P), First(4, Sort(DOWN, P))):
                self.becomes("firsts", First(one, First(other, part)), First(min(one, other), part))
        self.never("firsts", First(2, P), P, First(2, Sort(DOWN, First(3, P))), First(2, Keep(P_ALL, First(3, P))),
                   Sort(DOWN, First(1, P)))

    def test_by_the_schema_that_is_handed_in(self):
        schema = schema_in("people a:word b:number | cities z:word")
        got = rule_by("turn").applied(Product(P, C), schema)
        self.same(got.told(), Keep(["p.a", "p.b", "c.z"], Product(C, P)).told())
        self.same(rule_by("keepnone").applied(C, schema).told(), Keep(["c.z"], C).told())


def nodes_of(tree):
    found = [tree]
    for part in tree.parts():
        found.extend(nodes_of(part))
    return found


class ChanceTest(RulesCase):
    """Each rule, put wherever it can be put, keeps columns and answer, rows in their order."""

    def shapes(self, growth):
        """Trees in which the rules find something, over parts by chance."""
        chance = growth.chance
        tree = growth.tree(5)
        over = {"choose": Choose, "keep": Keep, "group": Group, "sort": Sort, "first": First}
        for turn in range(chance.randrange(4)):
            if chance.random() < 0.3 and growth.scans > 1:
                growth.scans -= 1
                pair = [tree, growth.over(over[chance.choice(["choose", "keep", "sort", "first"])], growth.tree(2))]
                chance.shuffle(pair)
                tree = Product(*pair)
            tree = growth.over(over[chance.choice(list(over))], tree)
        return tree

    def reader_by(self, chance):
        people = chance.sample(range(9), chance.randrange(6))
        cities = chance.sample("abcdef", chance.randrange(5))
        rows = {"people": [(key, chance.choice("ab"), chance.randrange(3)) for key in people],
                "cities": [(key, chance.randrange(3)) for key in cities]}
        return AtMake(Makes(self.schema, rows), 0)

    def test_rules_keep_the_answer(self):
        chance = random.Random(21)
        put = {word: 0 for word in WORDS}
        for turn in range(250):
            tree = self.shapes(Growth(chance, 4))
            self.reader = self.reader_by(chance)
            for node in nodes_of(tree):
                told = node.told()
                for word in WORDS:
                    got = rule_by(word).applied(node, self.schema)
                    if got is None:
                        continue
                    put[word] += 1
                    self.same(node.told(), told)
                    self.same(got.columns_told(self.schema), node.columns_told(self.schema))
                    self.same(self.answer(got), self.answer(node))
        self.assertGreater(min(put.values()), 3, put)

    def test_rules_put_one_behind_another(self):
        chance = random.Random(31)
        for turn in range(150):
            tree = self.shapes(Growth(chance, 3))
            self.reader = self.reader_by(chance)
            answer, columns = self.answer(tree), tree.columns_told(self.schema)
            for step in range(8):
                got = rule_by(chance.choice(WORDS)).applied(tree, self.schema)
                tree = tree if got is None else got
            self.same((self.answer(tree), tree.columns_told(self.schema)), (answer, columns))

    def test_every_sign_mirrored(self):
        for sign in SIGNS:
            tree = Choose(column("p.id", sign, "p.age"), P)
            once = rule_by("mirror").applied(tree, self.schema)
            self.same(rule_by("mirror").applied(once, self.schema).told(), tree.told())


if __name__ == "__main__":
    unittest.main()
