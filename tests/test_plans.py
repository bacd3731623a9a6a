"""Plans and their pieces [101] to [104], and [3], [4] of them."""

import random
import unittest

from helper import Case, ODD_KEYS, PlanGrowth, column, small_schema, value
from planstore.conditions import And, Not, Or
from planstore.errors import Alike, NoColumn, NoOrder, NoTable, WrongKind
from planstore.plans import (Along, Fetching, Firsts, Grouping, Matching, Narrow, Ordering, Pairing, Plan, Sift,
                             Through, need_plan)
from planstore.trees import Choose, First, Group, Keep, Product, Scan, Sort

P, C, Q = Scan("people", "p"), Scan("cities", "c"), Scan("people", "q")
THROUGH_P, THROUGH_C, THROUGH_Q = Through("people", "p"), Through("cities", "c"), Through("people", "q")
COUNT = ("count", None, "many")
SUMS = [COUNT, ("sum", "p.age", "all"), ("least", "p.city", "least")]


OLD = value("p.age", ">", 11)
LIKE = column("p.city", "=", "c.name")
SIZE = column("p.age", "=", "c.size")

# Each piece with its parts, its reading, its tuples and its text.
PIECES = [
    (Through("people", "p"), [], P, ("through", "people", "p"), "through people as p"),
    (Through("people", "people"), [], Scan("people", "people"), ("through", "people", "people"),
     "through people as people"),
    (Along("people", "p", "id", None, None), [], P, ("along", "people", "p", "id", None, None),
     "along people as p by id"),
    (Along("people", "p", "id", 3, None), [], Choose(value("p.id", ">=", 3), P),
     ("along", "people", "p", "id", 3, None), "along people as p by id from 3"),
    (Along("people", "p", "id", None, -3), [], Choose(value("p.id", "<=", -3), P),
     ("along", "people", "p", "id", None, -3), "along people as p by id to -3"),
    (Along("people", "p", "age", 0, 0), [], Choose(value("p.age", "=", 0), P),
     ("along", "people", "p", "age", 0, 0), "along people as p by age from 0 to 0"),
    (Along("people", "p", "age", 0, None), [], Choose(value("p.age", ">=", 0), P),
     ("along", "people", "p", "age", 0, None), "along people as p by age from 0"),
    (Along("people", "p", "age", None, 0), [], Choose(value("p.age", "<=", 0), P),
     ("along", "people", "p", "age", None, 0), "along people as p by age to 0"),
    (Along("people", "p", "age", 3, 9), [], Choose(And(value("p.age", ">=", 3), value("p.age", "<=", 9)), P),
     ("along", "people", "p", "age", 3, 9), "along people as p by age from 3 to 9"),
    (Along("people", "p", "age", 9, 3), [], Choose(And(value("p.age", ">=", 9), value("p.age", "<=", 3)), P),
     ("along", "people", "p", "age", 9, 3), "along people as p by age from 9 to 3"),
    (Along("people", "q", "city", "oslo", "oslo"), [], Choose(value("q.city", "=", "oslo"), Q),
     ("along", "people", "q", "city", "oslo", "oslo"), "along people as q by city from 'oslo' to 'oslo'"),
    (Along("people", "q", "city", "a", "oslo"), [],
     Choose(And(value("q.city", ">=", "a"), value("q.city", "<=", "oslo")), Q),
     ("along", "people", "q", "city", "a", "oslo"), "along people as q by city from 'a' to 'oslo'"),
    (Sift(OLD, THROUGH_P), [THROUGH_P], Choose(OLD, P), ("sift", OLD.told(), ("through", "people", "p")),
     "through people as p | sift p.age > 11"),
    (Sift(And(Or(OLD, LIKE), Not(SIZE)), Pairing(THROUGH_P, THROUGH_C)), [Pairing(THROUGH_P, THROUGH_C)],
     Choose(And(Or(OLD, LIKE), Not(SIZE)), Product(P, C)),
     ("sift", And(Or(OLD, LIKE), Not(SIZE)).told(), ("pairing", ("through", "people", "p"), ("through", "cities",
                                                                                             "c"))),
     "( through people as p ) pairing ( through cities as c ) | sift ( p.age > 11 or p.city = c.name ) and not p.age = "
     "c.size"),
    (Narrow(["p.age", "p.id"], THROUGH_P), [THROUGH_P], Keep(["p.age", "p.id"], P),
     ("narrow", ("p.age", "p.id"), ("through", "people", "p")), "through people as p | narrow p.age p.id"),
    (Narrow(("p.id",), THROUGH_P), [THROUGH_P], Keep(["p.id"], P), ("narrow", ("p.id",), ("through", "people", "p")),
     "through people as p | narrow p.id"),
    (Pairing(THROUGH_P, THROUGH_C), [THROUGH_P, THROUGH_C], Product(P, C),
     ("pairing", ("through", "people", "p"), ("through", "cities", "c")),
     "( through people as p ) pairing ( through cities as c )"),
    (Matching(THROUGH_P, THROUGH_C, [("p.city", "c.name")]), [THROUGH_P, THROUGH_C], Choose(LIKE, Product(P, C)),
     ("matching", ("through", "people", "p"), ("through", "cities", "c"), (("p.city", "c.name"),)),
     "( through people as p ) matching ( through cities as c ) on p.city = c.name"),
    (Matching(THROUGH_P, THROUGH_C, (("p.city", "c.name"), ("p.age", "c.size"), ("p.city", "c.name"))),
     [THROUGH_P, THROUGH_C], Choose(LIKE, Choose(SIZE, Choose(LIKE, Product(P, C)))),
     ("matching", ("through", "people", "p"), ("through", "cities", "c"),
      (("p.city", "c.name"), ("p.age", "c.size"), ("p.city", "c.name"))),
     "( through people as p ) matching ( through cities as c ) on p.city = c.name and p.age = c.size and p.city = c.name"),
    (Fetching(THROUGH_C, "people", "p", "city", "c.name"), [THROUGH_C],
     Choose(column("c.name", "=", "p.city"), Product(C, P)),
     ("fetching", ("through", "cities", "c"), "people", "p", "city", "c.name"),
     "( through cities as c ) fetching people as p by city = c.name"),
    (Grouping(["p.city"], SUMS, THROUGH_P), [THROUGH_P], Group(["p.city"], SUMS, P),
     ("grouping", ("p.city",), tuple(SUMS), ("through", "people", "p")),
     "through people as p | grouping p.city : count many , sum p.age all , least p.city least"),
    (Grouping([], (COUNT,), THROUGH_P), [THROUGH_P], Group([], [COUNT], P),
     ("grouping", (), (COUNT,), ("through", "people", "p")), "through people as p | grouping : count many"),
    (Grouping(("p.city", "p.id"), [], THROUGH_P), [THROUGH_P], Group(["p.city", "p.id"], [], P),
     ("grouping", ("p.city", "p.id"), (), ("through", "people", "p")), "through people as p | grouping p.city p.id :"),
    (Ordering([("p.age", True), ("p.id", False)], THROUGH_P), [THROUGH_P], Sort([("p.age", True), ("p.id", False)], P),
     ("ordering", (("p.age", True), ("p.id", False)), ("through", "people", "p")),
     "through people as p | ordering p.age down , p.id"),
    (Ordering((("p.id", False),), THROUGH_P), [THROUGH_P], Sort([("p.id", False)], P),
     ("ordering", (("p.id", False),), ("through", "people", "p")), "through people as p | ordering p.id"),
    (Firsts(0, THROUGH_P), [THROUGH_P], First(0, P), ("firsts", 0, ("through", "people", "p")),
     "through people as p | firsts 0"),
    (Firsts(1000, THROUGH_P), [THROUGH_P], First(1000, P), ("firsts", 1000, ("through", "people", "p")),
     "through people as p | firsts 1000"),
]
KINDS = [Through, Along, Sift, Narrow, Pairing, Matching, Fetching, Grouping, Ordering, Firsts]


class PiecesTest(Case):
    def test_readings(self):
        for plan, parts, reading, told, text in PIECES:
            self.same(plan.reading().told(), reading.told())
            self.assertIs(type(plan.reading()), type(reading))

    def test_parts(self):
        for plan, parts, reading, told, text in PIECES:
            self.assertIs(type(plan.parts()), list)
            self.same([part.told() for part in plan.parts()], [part.told() for part in parts])

    def test_tuples(self):
        for plan, parts, reading, told, text in PIECES:
            self.same(plan.told(), told)

    def test_texts(self):
        for plan, parts, reading, told, text in PIECES:
            self.same(plan.text(), text)

    def test_a_kind_straight_under_plan(self):
        for kind in KINDS:
            self.same(kind.__bases__, (Plan,))
        self.same({type(plan) for plan, parts, reading, told, text in PIECES} == set(KINDS), True)

    def test_a_plan_of_many_pieces(self):
        one = Sift(OLD, Along("people", "p", "age", 3, None))
        other = Fetching(THROUGH_C, "people", "q", "city", "c.name")
        plan = Firsts(2, Ordering([("many", True)], Grouping(["p.id"], [COUNT], Narrow(
            ["q.id", "p.id"], Matching(one, other, [("p.id", "q.age"), ("p.city", "c.name")])))))
        self.same(plan.text(), "( along people as p by age from 3 | sift p.age > 11 ) matching ( ( through cities as c "
                  ") fetching people as q by city = c.name ) on p.id = q.age and p.city = c.name | narrow q.id p.id | "
                  "grouping p.id : count many | ordering many down | firsts 2")
        product = Product(Choose(OLD, Choose(value("p.age", ">=", 3), P)),
                          Choose(column("c.name", "=", "q.city"), Product(C, Q)))
        matched = Choose(column("p.id", "=", "q.age"), Choose(LIKE, product))
        self.same(plan.reading().told(), First(2, Sort([("many", True)], Group(["p.id"], [COUNT], Keep(
            ["q.id", "p.id"], matched)))).told())
        matching = ("matching", one.told(), other.told(), (("p.id", "q.age"), ("p.city", "c.name")))
        self.same(plan.told(), ("firsts", 2, ("ordering", (("many", True),), ("grouping", ("p.id",), (COUNT,), (
            "narrow", ("q.id", "p.id"), matching)))))


class FieldsTest(Case):
    def has(self, plan, fields):
        for name, wanted in fields.items():
            self.same(getattr(plan, name), wanted)

    def test_fields(self):
        self.has(Through("people", "p"), {"table": "people", "alias": "p"})
        self.has(Along("people", "p", "id", 3, None),
                 {"table": "people", "alias": "p", "column": "id", "low": 3, "high": None})
        self.has(Sift(OLD, THROUGH_P), {"cond": OLD, "part": THROUGH_P})
        self.has(Narrow(["p.id"], THROUGH_P), {"kept": ("p.id",), "part": THROUGH_P})
        self.has(Pairing(THROUGH_P, THROUGH_C), {"one": THROUGH_P, "other": THROUGH_C})
        self.has(Matching(THROUGH_P, THROUGH_C, [("p.city", "c.name")]),
                 {"one": THROUGH_P, "other": THROUGH_C, "pairs": (("p.city", "c.name"),)})
        self.has(Fetching(THROUGH_C, "people", "p", "city", "c.name"),
                 {"one": THROUGH_C, "table": "people", "alias": "p", "column": "city", "probe": "c.name"})
        self.has(Grouping(["p.id"], [COUNT], THROUGH_P), {"by": ("p.id",), "sums": (COUNT,), "part": THROUGH_P})
        self.has(Ordering([("p.id", True)], THROUGH_P), {"by": (("p.id", True),), "part": THROUGH_P})
        self.has(Firsts(3, THROUGH_P), {"many": 3, "part": THROUGH_P})

    def test_lists_that_are_changed_behind(self):
        kept, pairs, by, sums, keys = ["p.id"], [("p.city", "c.name")], ["p.id"], [COUNT], [("p.id", True)]
        plans = [Narrow(kept, THROUGH_P), Matching(THROUGH_P, THROUGH_C, pairs), Grouping(by, sums, THROUGH_P),
                 Ordering(keys, THROUGH_P)]
        told = [(plan.told(), plan.text(), plan.reading().told()) for plan in plans]
        for thing in (kept, pairs, by, sums, keys):
            self.same(len(thing), 1)
            thing.clear()
        self.same([(plan.told(), plan.text(), plan.reading().told()) for plan in plans], told)

    def test_parts_told_are_the_askers_own(self):
        for plan, parts, reading, told, text in PIECES:
            plan.parts().clear()
            plan.parts().append(None)
            self.same([part.told() for part in plan.parts()], [part.told() for part in parts])
            self.same((plan.told(), plan.text()), (told, text))


class NeedPlanTest(Case):
    def setUp(self):
        self.schema = small_schema()

    def need(self, plan):
        return need_plan(plan, self.schema)

    def test_plans_that_are_let_by(self):
        for plan, parts, reading, told, text in PIECES:
            self.assertIsNone(self.need(plan))
            self.same(plan.told(), told)

    def test_orders_that_are_there(self):
        for table, name in (("people", "id"), ("people", "city"), ("people", "age"), ("cities", "name")):
            self.assertIsNone(self.need(Along(table, "x", name, None, None)))
        self.assertIsNone(self.need(Fetching(THROUGH_P, "cities", "x", "name", "p.city")))
        self.assertIsNone(self.need(Fetching(THROUGH_P, "people", "x", "id", "p.age")))

    def test_orders_that_are_not_there(self):
        wanted = {"table": "cities", "column": "size"}
        for low, high in ((None, None), (1, None), (None, 1), (1, 1), (1, 2)):
            self.refused(NoOrder, wanted, self.need, Along("cities", "c", "size", low, high))
        self.refused(NoOrder, wanted, self.need, Fetching(THROUGH_P, "cities", "c", "size", "p.age"))

    def test_an_along_without_bounds_by_what_is_no_column(self):
        for name in [thing for thing in ODD_KEYS if thing == thing] + ["people", "id.id", "p.id", "Id", "size"]:
            self.refused(NoOrder, {"table": "people", "column": name}, self.need,
                         Along("people", "p", name, None, None))

    def test_as_the_reading_is_refused(self):
        self.refused(NoTable, {"table": "towns"}, self.need, Through("towns", "t"))
        self.refused(NoTable, {"table": "towns"}, self.need, Along("towns", "t", "id", None, None))
        self.refused(NoTable, {"table": "towns"}, self.need, Fetching(THROUGH_P, "towns", "t", "id", "p.id"))
        self.refused(NoColumn, {"name": "p.size"}, self.need, Along("people", "p", "size", 1, None))
        self.refused(NoColumn, {"name": "p.size"}, self.need, Sift(value("p.size", "=", 1), THROUGH_P))
        self.refused(NoColumn, {"name": "c.age"}, self.need, Fetching(THROUGH_P, "cities", "c", "age", "p.age"))
        self.refused(NoColumn, {"name": "p.name"}, self.need, Fetching(THROUGH_P, "cities", "c", "name", "p.name"))
        self.refused(NoColumn, {"name": "x"}, self.need, Narrow(["p.id", "x"], THROUGH_P))
        self.refused(NoColumn, {"name": "x"}, self.need, Ordering([("x", True)], THROUGH_P))
        self.refused(NoColumn, {"name": "x"}, self.need, Grouping(["x"], [], THROUGH_P))
        self.refused(NoColumn, {"name": "x"}, self.need, Matching(THROUGH_P, THROUGH_C, [("x", "c.name")]))
        self.refused(WrongKind, {"name": "p.id"}, self.need, Along("people", "p", "id", "oslo", None))
        self.refused(WrongKind, {"name": "p.id"}, self.need, Along("people", "p", "id", 3, "oslo"))
        self.refused(WrongKind, {"name": "p.id"}, self.need, Fetching(THROUGH_P, "cities", "c", "name", "p.id"))
        self.refused(WrongKind, {"name": "p.age"}, self.need, Matching(
            THROUGH_P, THROUGH_C, [("p.city", "c.name"), ("p.age", "c.name")]))
        self.refused(WrongKind, {"name": "p.city"}, self.need, Grouping([], [("sum", "p.city", "x")], THROUGH_P))
        self.refused(Alike, {"name": "p.id"}, self.need, Pairing(THROUGH_P, THROUGH_P))
        self.refused(Alike, {"name": "p.id"}, self.need, Narrow(["p.id", "p.id"], THROUGH_P))
        self.refused(Alike, {"name": "p.id"}, self.need, Fetching(THROUGH_P, "people", "p", "id", "p.id"))

    def test_the_last_pairs_fault_goes_first(self):
        pairs = [("p.age", "c.name"), ("p.city", "c.size")]
        self.refused(WrongKind, {"name": "p.city"}, self.need, Matching(THROUGH_P, THROUGH_C, pairs))

    def test_the_reading_goes_ahead_of_orders(self):
        along = Along("cities", "c", "size", None, None)
        self.refused(NoColumn, {"name": "x"}, self.need, Narrow(["x"], along))
        self.refused(NoTable, {"table": "towns"}, self.need, Pairing(along, Through("towns", "t")))

    def test_the_first_piece_without_an_order(self):
        size = Along("cities", "c", "size", None, None)
        name = Along("people", "p", "nosuch", None, None)
        key = Along("people", "q", "id", None, None)
        cities = {"table": "cities", "column": "size"}
        people = {"table": "people", "column": "nosuch"}
        self.refused(NoOrder, cities, self.need, Pairing(size, name))
        self.refused(NoOrder, people, self.need, Pairing(name, size))
        self.refused(NoOrder, people, self.need, Pairing(key, Pairing(name, size)))
        self.refused(NoOrder, cities, self.need, Matching(Firsts(0, size), name, [("c.name", "p.city")]))
        self.refused(NoOrder, people, self.need, Fetching(name, "cities", "c", "size", "p.age"))
        self.refused(NoOrder, cities, self.need, Pairing(Fetching(key, "cities", "c", "size", "q.age"), name))
        for above in (Sift(OLD, name), Narrow(["p.id"], name), Grouping([], [COUNT], name), Firsts(1, name),
                      Ordering([("p.id", True)], name)):
            self.refused(NoOrder, people, self.need, above)

    def test_deep_plans(self):
        plan = THROUGH_P
        for turn in range(60):
            plan = Sift(OLD, plan) if turn % 2 else Narrow(["p.age", "p.id"], plan)
        self.assertIsNone(self.need(plan))
        self.same(plan.text().count(" | "), 60)


class ByChanceTest(Case):
    def reading(self, told):
        """The told tree of a told plan's reading."""
        word = told[0]
        if word == "through":
            return ("scan",) + told[1:]
        if word == "along":
            table, alias, name, low, high = told[1:]
            scan, left = ("scan", table, alias), f"{alias}.{name}"
            least = ("compare", left, ">=", ("value", low))
            most = ("compare", left, "<=", ("value", high))
            cond = {(True, False): least, (False, True): most, (True, True): ("and", least, most),
                    (False, False): None}[low is not None, high is not None]
            if low is not None and low == high:
                cond = ("compare", left, "=", ("value", low))
            return scan if cond is None else ("choose", cond, scan)
        if word == "pairing":
            return ("product", self.reading(told[1]), self.reading(told[2]))
        if word == "matching":
            tree = ("product", self.reading(told[1]), self.reading(told[2]))
            for one, other in told[3][::-1]:
                tree = ("choose", ("compare", one, "=", ("column", other)), tree)
            return tree
        if word == "fetching":
            one, table, alias, name, probe = told[1:]
            cond = ("compare", probe, "=", ("column", f"{alias}.{name}"))
            return ("choose", cond, ("product", self.reading(one), ("scan", table, alias)))
        new = {"sift": "choose", "narrow": "keep", "grouping": "group", "ordering": "sort", "firsts": "first"}[word]
        return (new,) + told[1:-1] + (self.reading(told[-1]),)

    def test_plans_by_chance(self):
        chance = random.Random(8)
        for turn in range(400):
            plan = PlanGrowth(chance, 4).plan(6)
            self.same(plan.reading().told(), self.reading(plan.told()))
            self.assertIsNone(need_plan(plan, small_schema()))


if __name__ == "__main__":
    unittest.main()
