"""Trees of questions [71], [74], [75], their texts [79], and [4], [5] of them."""

import unittest

from helper import Case, small_schema
from planstore.conditions import And, Compare, Not
from planstore.errors import Alike, NoColumn, NoTable, WrongKind
from planstore.schema import schema_in
from planstore.trees import Choose, First, Group, Keep, Product, Scan, Sort, Tree, leaves_beneath

P = Scan("people", "p")
Q = Scan("people", "q")
C = Scan("cities", "c")
P_COLUMNS = [("p.id", "number"), ("p.city", "word"), ("p.age", "number")]
Q_COLUMNS = [("q.id", "number"), ("q.city", "word"), ("q.age", "number")]
C_COLUMNS = [("c.name", "word"), ("c.size", "number")]
OLD = Compare("p.age", ">", ("value", 30))
NO_SCAN = Scan("towns", "p")
COUNT = ("count", None, "many")


class TreesCase(Case):
    def columns(self, tree, wanted):
        told = tree.columns_told(small_schema())
        self.same(told, wanted)
        told.clear()
        self.same(tree.columns_told(small_schema()), wanted)

    def no(self, error, value, *trees):
        name = "table" if error is NoTable else "name"
        for tree in trees:
            self.refused(error, {name: value}, tree.columns_told, small_schema())


class ClassesTest(Case):
    def test_seven_nodes_none_under_another(self):
        kinds = (Scan, Choose, Keep, Product, Group, Sort, First)
        for one in kinds:
            self.assertTrue(issubclass(one, Tree))
            self.assertEqual([other for other in kinds if issubclass(one, other)], [one])

    def test_values(self):
        self.same((P.table, P.alias), ("people", "p"))
        choose = Choose(OLD, P)
        self.assertIs(choose.cond, OLD)
        self.assertIs(choose.part, P)
        product = Product(P, C)
        self.assertIs(product.one, P)
        self.assertIs(product.other, C)
        self.same(First(1000, P).many, 1000)
        for tree in (Keep(["p.id"], P), Group([], [COUNT], P), Sort([("p.id", True)], P), First(0, P)):
            self.assertIs(tree.part, P)

    def test_lists_are_kept_as_tuples(self):
        for kind in (list, tuple):
            self.same(Keep(kind(["p.id", "p.age"]), P).kept, ("p.id", "p.age"))
            group = Group(kind(["p.id"]), kind([COUNT, ("sum", "p.age", "s")]), P)
            self.same((group.by, group.sums), (("p.id",), (COUNT, ("sum", "p.age", "s"))))
            self.same(Sort(kind([("p.id", True), ("p.age", False)]), P).by, (("p.id", True), ("p.age", False)))
        self.same((Group([], [COUNT], P).by, Group(["p.id"], [], P).sums), ((), ()))

    def test_what_is_changed_behind_changes_nothing(self):
        names, by, sums, keys = ["p.id"], ["p.city"], [COUNT], [("p.id", False)]
        trees = [Keep(names, P), Group(by, sums, P), Sort(keys, P)]
        told = [(tree.told(), tree.text(), tree.columns_told(small_schema())) for tree in trees]
        for things in (names, by, sums, keys):
            things.clear()
        self.same([(tree.told(), tree.text(), tree.columns_told(small_schema())) for tree in trees], told)


class ColumnsTest(TreesCase):
    def test_scan(self):
        self.columns(P, P_COLUMNS)
        self.columns(Scan("cities", "cities"), [("cities.name", "word"), ("cities.size", "number")])
        for name in ("towns", "peopl", "p", "id", "people.id"):
            self.no(NoTable, name, Scan(name, "p"), Scan(name, "people"))

    def test_by_the_schema_that_is_handed_in(self):
        other = schema_in("people a:word")
        self.same(P.columns_told(other), [("p.a", "word")])
        self.refused(NoTable, {"table": "cities"}, C.columns_told, other)
        self.refused(NoColumn, {"name": "p.age"}, Choose(OLD, P).columns_told, other)

    def test_choose(self):
        self.columns(Choose(OLD, P), P_COLUMNS)
        self.columns(Choose(Not(OLD), Choose(OLD, P)), P_COLUMNS)
        self.columns(Choose(Compare("p.city", "=", ("column", "c.name")), Product(P, C)), P_COLUMNS + C_COLUMNS)
        self.no(NoColumn, "q.age", Choose(Compare("q.age", "=", ("value", 1)), P),
                Choose(Compare("p.age", "=", ("column", "q.age")), P))
        self.no(NoColumn, "age", Choose(Compare("age", "=", ("value", 1)), P))
        self.no(WrongKind, "p.age", Choose(Compare("p.age", "=", ("value", "x")), P))
        self.no(NoColumn, "x", Choose(And(OLD, Compare("x", "=", ("column", "y"))), P))

    def test_choose_looks_at_its_parts_columns(self):
        self.no(NoColumn, "p.age", Choose(OLD, Keep(["p.id"], P)), Choose(OLD, Group(["p.id"], [], P)))
        self.columns(Choose(Compare("many", "=", ("value", 1)), Group([], [COUNT], P)), [("many", "number")])

    def test_keep(self):
        self.columns(Keep(["p.id"], P), P_COLUMNS[:1])
        self.columns(Keep(["p.age", "p.id", "p.city"], P), [P_COLUMNS[2], P_COLUMNS[0], P_COLUMNS[1]])
        self.no(NoColumn, "p.x", Keep(["p.x"], P), Keep(["p.id", "p.x"], P), Keep(["p.x", "p.x"], P),
                Keep(["p.x", "p.y"], P),
                Keep(["p.x", "p.id", "p.id"], P))
        self.no(Alike, "p.id", Keep(["p.id", "p.id"], P), Keep(["p.id", "p.age", "p.id", "p.x"], P),
                Keep(["p.age", "p.id", "p.id", "p.age"], P))
        self.no(NoColumn, "p.age", Keep(["p.age"], Keep(["p.id"], P)))

    def test_product(self):
        self.columns(Product(P, C), P_COLUMNS + C_COLUMNS)
        self.columns(Product(C, P), C_COLUMNS + P_COLUMNS)
        self.columns(Product(Product(P, Q), C), P_COLUMNS + Q_COLUMNS + C_COLUMNS)
        self.no(Alike, "p.id", Product(P, P), Product(Product(P, C), P), Product(P, Product(C, P)))
        self.no(Alike, "c.name", Product(C, C))

    def test_like_aliases_of_unlike_columns(self):
        self.columns(Product(P, Scan("cities", "p")), P_COLUMNS + [("p.name", "word"), ("p.size", "number")])

    def test_the_first_name_under_the_other(self):
        schema = schema_in("one a:number b:number c:number | two c:word d:word a:number")
        tree = Product(Scan("one", "x"), Scan("two", "x"))
        self.refused(Alike, {"name": "x.c"}, tree.columns_told, schema)
        tree = Product(Scan("two", "x"), Scan("one", "x"))
        self.refused(Alike, {"name": "x.a"}, tree.columns_told, schema)

    def test_names_that_a_keep_drops_stand_under_a_product(self):
        kept = Keep(["p.age"], P)
        other = Keep(["p.city"], P)
        for one in (kept, Choose(OLD, kept), Sort([("p.age", False)], kept), Keep(["p.age"], kept), Product(kept, C)):
            self.no(Alike, "p.id", Product(one, other), Product(other, one), Product(one, P), Product(P, one))
        self.no(Alike, "p.id", Product(Product(C, kept), other), Product(other, Product(C, kept)))

    def test_names_that_a_group_or_a_first_lacks_do_not(self):
        for one in (Group(["p.id"], [], P), First(3, Keep(["p.id"], P))):
            for other in (Group(["p.city"], [], P), First(3, Keep(["p.city"], P))):
                self.columns(Product(one, other), [("p.id", "number"), ("p.city", "word")])
                self.no(Alike, "p.id", Product(one, P), Product(other, Product(one, one)))
            self.no(Alike, "p.id", Product(one, one), Product(P, one), Product(one, Keep(["p.city"], P)))
            self.no(Alike, "p.id", Product(Sort([("p.id", True)], one), one),
                    Product(Choose(Compare("p.id", "=", ("value", 1)), one), one))

    def test_under_a_keep_over_a_group_stand_the_groups_names(self):
        group = Group(["p.id"], [("count", None, "many")], P)
        kept = Keep(["p.id"], group)
        self.no(Alike, "many", Product(kept, Keep(["many"], Group([], [COUNT], Q))))
        self.columns(Product(kept, Group([], [("count", None, "all")], Q)), [("p.id", "number"), ("all", "number")])

    def test_the_order_of_names_under_a_product(self):
        schema = schema_in("one a:number b:number c:number")
        scan = Scan("one", "x")
        # the names stand in the order of the scan, not in that of the keep
        tree = Product(Keep(["x.b"], scan), Keep(["x.c", "x.b"], scan))
        self.refused(Alike, {"name": "x.a"}, tree.columns_told, schema)
        first = First(1, Keep(["x.c", "x.b"], scan))
        self.refused(Alike, {"name": "x.c"}, Product(scan, first).columns_told, schema)
        self.no(Alike, "p.id", Product(Product(Q, P), Product(P, Q)))
        self.no(Alike, "q.id", Product(Product(P, Q), Keep(["p.id"], Choose(OLD, Product(Q, P)))))

    def test_group(self):
        sums = [COUNT, ("sum", "p.age", "all"), ("least", "p.city", "lo"), ("greatest", "p.id", "hi"),
                ("least", "p.age", "young")]
        made = [("many", "number"), ("all", "number"), ("lo", "word"), ("hi", "number"), ("young", "number")]
        self.columns(Group(["p.city", "p.id"], sums, P), [P_COLUMNS[1], P_COLUMNS[0]] + made)
        self.columns(Group([], sums, P), made)
        self.columns(Group(["p.age"], [], P), [P_COLUMNS[2]])
        self.columns(Group(["many"], [("greatest", "many", "top")], Group(["p.id"], [COUNT], P)),
                     [("many", "number"), ("top", "number")])

    def test_group_refused(self):
        self.no(NoColumn, "p.x", Group(["p.x"], [], P), Group(["p.id", "p.x", "p.id"], [], P),
                Group(["p.x", "p.x"], [], P),
                Group(["p.x"], [("sum", "p.city", "a")], P), Group([], [("sum", "p.x", "a")], P),
                Group([], [("least", "p.x", "a")], P),
                Group([], [("greatest", "p.x", "a")], P), Group(["p.id"], [COUNT, ("sum", "p.x", "many")], P),
                Group([], [("sum", "p.x", "a"), ("sum", "p.city", "b")], P))
        self.no(Alike, "p.id", Group(["p.id", "p.id"], [], P), Group(["p.id", "p.id", "p.x"], [], P),
                Group(["p.id", "p.id"], [("sum", "p.x", "a")], P))
        self.no(WrongKind, "p.city", Group([], [("sum", "p.city", "a")], P),
                Group([], [COUNT, ("sum", "p.city", "many")], P),
                Group([], [("sum", "p.city", "a"), ("sum", "p.x", "b")], P))
        self.no(Alike, "many", Group([], [COUNT, COUNT], P),
                Group(["p.id"], [COUNT, ("sum", "p.age", "many"), ("sum", "p.x", "c")], P))

    def test_a_new_name_like_a_name_it_goes_by(self):
        made = Group(["p.id"], [COUNT], P)
        self.no(Alike, "many", Group(["many"], [("count", None, "many")], made))
        # a name of the part that it does not go by may be made once more
        self.columns(Group(["p.id"], [("greatest", "many", "many")], made), [("p.id", "number"), ("many", "number")])
        self.no(NoColumn, "a", Group([], [("least", "p.id", "a"), ("sum", "a", "b")], P))

    def test_sort(self):
        self.columns(Sort([("p.age", True)], P), P_COLUMNS)
        self.columns(Sort([("p.age", True), ("p.id", False), ("p.age", False), ("p.age", True)], P), P_COLUMNS)
        self.no(NoColumn, "p.x", Sort([("p.x", False)], P), Sort([("p.id", False), ("p.x", True), ("p.y", True)], P))
        self.no(NoColumn, "p.age", Sort([("p.age", False)], Keep(["p.id"], P)))

    def test_first(self):
        for many in (0, 1, 1000):
            self.columns(First(many, P), P_COLUMNS)
            self.columns(First(many, Keep(["p.age"], P)), [("p.age", "number")])

    def test_parts_go_first(self):
        bad = Compare("x", "=", ("value", 1))
        over = [lambda part: Choose(bad, part), lambda part: Keep(["x"], part), lambda part: Group(["x"], [], part),
                lambda part: Sort([("x", True)], part), lambda part: First(1, part),
                lambda part: Product(part, Choose(bad, C)),
                lambda part: Product(part, Scan("nowhere", "x")), lambda part: Product(C, part)]
        for make in over:
            self.no(NoTable, "towns", make(NO_SCAN), make(First(1, NO_SCAN)))
            self.no(Alike, "p.id", make(Keep(["p.id", "p.id"], P)))
            self.no(WrongKind, "p.age", make(Choose(Compare("p.age", "=", ("value", "x")), P)))
        self.no(NoColumn, "x", Product(Choose(bad, P), NO_SCAN), Product(Choose(bad, P), P))
        self.no(NoTable, "towns", Product(P, NO_SCAN), Product(P, Product(NO_SCAN, P)))

    def test_deep_trees_are_told_in_good_time(self):
        tree = P
        for turn in range(29):
            tree = First(5,
                         Product(tree,
                                 Group([],
                                       [("count", None,
                                         "n" + "abcdefghijklmnopqrstuvwxyzabc"[turn] + ("z" if turn > 25 else ""))],
                                                Scan("cities", "c"))))
        self.same(len(tree.columns_told(small_schema())), 3 + 29)


class PartsTest(Case):
    def test_parts_and_the_same_node_over_others(self):
        both = [(Choose(OLD, P), ("choose", OLD.told())), (Keep(["p.id"], P), ("keep", ("p.id",))),
                (Group(["p.id"], [COUNT], P), ("group", ("p.id",), (COUNT,))),
                (Sort([("p.id", True)], P), ("sort", (("p.id", True),))),
                (First(9, P), ("first", 9))]
        for tree, told in both:
            parts = tree.parts()
            self.assertEqual(len(parts), 1)
            self.assertIs(parts[0], P)
            parts.clear()
            other = tree.with_parts([Q])
            self.assertIs(type(other), type(tree))
            self.same(other.told(), told + (("scan", "people", "q"),))
            self.same(tree.told(), told + (("scan", "people", "p"),))
            self.assertIs(other.parts()[0], Q)

    def test_of_a_scan(self):
        self.same(P.parts(), [])
        other = P.with_parts([])
        self.assertIsInstance(other, Scan)
        self.same(other.told(), P.told())

    def test_of_a_product(self):
        tree = Product(P, C)
        parts = tree.parts()
        self.assertEqual([part.told() for part in parts], [P.told(), C.told()])
        parts.reverse()
        other = tree.with_parts(parts)
        self.same(other.told(), ("product", C.told(), P.told()))
        parts.clear()
        self.same((tree.told(), other.told()), (("product", P.told(), C.told()), ("product", C.told(), P.told())))

    def test_leaves(self):
        group = Group([], [COUNT], Product(P, C))
        sort = Sort([("q.id", False)], Choose(Compare("q.id", "=", ("value", 1)), Q))
        first = First(2, Keep(["c.name"], C))
        for leaf in (P, group, sort, first):
            leaves = leaves_beneath(leaf)
            self.assertEqual(len(leaves), 1)
            self.assertIs(leaves[0], leaf)
            self.assertIs(leaves_beneath(Keep(["x"], Choose(OLD, leaf)))[0], leaf)
        tree = Keep(["p.id"],
                    Product(Product(first, Choose(OLD, P)), Keep(["many"], Product(group, Choose(OLD, sort)))))
        self.assertEqual([leaf.told() for leaf in leaves_beneath(tree)],
                         [leaf.told() for leaf in (first, P, group, sort)])
        leaves_beneath(tree).clear()
        self.assertEqual(len(leaves_beneath(tree)), 4)


class ToldTest(Case):
    def test_each_node(self):
        self.same(P.told(), ("scan", "people", "p"))
        self.same(Choose(OLD, P).told(), ("choose", ("compare", "p.age", ">", ("value", 30)), ("scan", "people", "p")))
        self.same(Keep(["p.id", "p.age"], P).told(), ("keep", ("p.id", "p.age"), P.told()))
        self.same(Product(P, C).told(), ("product", P.told(), C.told()))
        self.same(Group(["p.id"], [COUNT, ("sum", "p.age", "s")], P).told(),
                  ("group", ("p.id",), (COUNT, ("sum", "p.age", "s")), P.told()))
        self.same(Group([], [COUNT], P).told(), ("group", (), (COUNT,), P.told()))
        self.same(Sort([("p.id", True), ("p.age", False)], P).told(),
                  ("sort", (("p.id", True), ("p.age", False)), P.told()))
        self.same(First(0, P).told(), ("first", 0, P.told()))

    def test_nested(self):
        self.same(First(3, Sort([("p.id", True)], Choose(Not(OLD), Product(P, Keep(["c.name"], C))))).told(),
                  ("first", 3, ("sort", (("p.id", True),), ("choose", ("not", OLD.told()),
                                ("product", P.told(), ("keep", ("c.name",), C.told()))))))


class TextTest(Case):
    def test_each_node(self):
        for tree, text in (
                (Scan("people", "people"), "table people"), (P, "table people as p"), (Scan("as", "as"), "table as"),
                (Choose(OLD, P), "table people as p | choose p.age > 30"),
                (Keep(["p.id"], P), "table people as p | keep p.id"),
                (Keep(["p.id", "p.age"], P), "table people as p | keep p.id p.age"),
                (Product(P, C), "table people as p | with table cities as c"),
                (Product(P, Scan("cities", "cities")), "table people as p | with table cities"),
                (Group(["p.id"], [COUNT], P), "table people as p | group p.id : count many"),
                (Group(["p.id", "p.age"], [COUNT, ("sum", "p.age", "s")], P),
                 "table people as p | group p.id p.age : count many , sum p.age s"),
                (Group([], [("least", "p.id", "a"), ("greatest", "p.id", "b")], P),
                 "table people as p | group : least p.id a , greatest p.id b"),
                (Group(["p.id"], [], P), "table people as p | group p.id :"),
                (Sort([("p.id", False)], P), "table people as p | sort p.id"),
                (Sort([("p.id", True), ("p.age", False), ("p.id", True)], P),
                 "table people as p | sort p.id down , p.age , p.id down"),
                (First(0, P), "table people as p | first 0"), (First(1000, P), "table people as p | first 1000")):
            self.same(tree.text(), text)

    def test_the_other_of_a_product_is_a_source(self):
        self.same(Product(Product(P, C), Q).text(),
                  "table people as p | with table cities as c | with table people as q")
        self.same(Product(P, Product(C, Q)).text(),
                  "table people as p | with ( table cities as c | with table people as q )")
        self.same(Product(First(1, P), First(2, C)).text(),
                  "table people as p | first 1 | with ( table cities as c | first 2 )")
        self.same(Product(Choose(OLD, P), Product(C, First(1, Q))).text(),
                  "table people as p | choose p.age > 30 | with ( table cities as c | with ( table people as q | first 1 ) )")

    def test_steps_behind_their_part(self):
        cond = And(OLD, Not(And(OLD, OLD)))
        tree = First(3, Sort([("p.id", True)], Keep(["p.id"], Choose(cond, Product(P, C)))))
        self.same(tree.text(),
                  "table people as p | with table cities as c | choose p.age > 30 and not ( p.age > 30 and p.age > 30 ) "
                               "| keep p.id | sort p.id down | first 3")


if __name__ == "__main__":
    unittest.main()
