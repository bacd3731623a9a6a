"""Runs of plans [105], that they tell the answer of their readings [8], and [4], [5] of them."""

import random
import unittest

from helper import Case, PlanGrowth, reader_of, rows_by, small_schema
from planstore.conditions import Compare
from planstore.dealings import Dealings
from planstore.errors import Alike, NoColumn, NoMake, NoOrder, NoTable, Over
from planstore.makes import Makes
from planstore.plain import plain_answer
from planstore.plans import (Along, Fetching, Firsts, Grouping, Matching, Narrow, Ordering, Pairing, Sift, Through)
from planstore.readers import AtMake
from planstore.running import run_plan
from planstore.schema import schema_in

PEOPLE = [(-2, "oslo", 30), (1, "bergen", 9), (3, "oslo", 12), (5, "oslo", 30), (7, "rome", 30)]
CITIES = [("bergen", 3), ("oslo", 9), ("paris", 9), ("rome", 1)]
P, C, Q = Through("people", "p"), Through("cities", "c"), Through("people", "q")
COUNT = ("count", None, "many")
OLD = Compare("p.age", ">", ("value", 11))
NONE = Compare("p.age", ">", ("value", 99))


class RunCase(Case):
    def setUp(self):
        self.schema = small_schema()
        self.makes = Makes(self.schema, {"people": PEOPLE, "cities": CITIES})
        self.reader = AtMake(self.makes, 0)

    def rows_of_reading(self, plan):
        return plain_answer(plan.reading(), self.schema, self.reader)[1]

    def runs(self, plan, rows, touched):
        told = plan.told()
        self.same(run_plan(plan, self.schema, self.reader), (rows, touched))
        self.same(self.rows_of_reading(plan), rows)
        self.same(plan.told(), told)


class PiecesTest(RunCase):
    def test_through(self):
        self.runs(P, PEOPLE, 5)
        self.runs(C, CITIES, 4)

    def test_along_the_key(self):
        self.runs(Along("people", "p", "id", None, None), PEOPLE, 6)
        self.runs(Along("people", "p", "id", 3, None), PEOPLE[2:], 4)
        self.runs(Along("people", "p", "id", None, 1), PEOPLE[:2], 3)
        self.runs(Along("people", "p", "id", 0, 5), PEOPLE[1:4], 4)
        self.runs(Along("people", "p", "id", 3, 3), [PEOPLE[2]], 2)
        self.runs(Along("people", "p", "id", 4, 4), [], 1)
        self.runs(Along("people", "p", "id", 5, 1), [], 1)
        self.runs(Along("cities", "c", "name", "oslo", "paris"), CITIES[1:3], 3)

    def test_along_a_second_order(self):
        self.runs(Along("people", "p", "age", None, None), PEOPLE, 6)
        self.runs(Along("people", "p", "age", 30, None), [PEOPLE[0], PEOPLE[3], PEOPLE[4]], 4)
        self.runs(Along("people", "p", "age", None, 12), [PEOPLE[1], PEOPLE[2]], 3)
        self.runs(Along("people", "p", "age", 30, 30), [PEOPLE[0], PEOPLE[3], PEOPLE[4]], 4)
        self.runs(Along("people", "p", "age", 0, 0), [], 1)
        self.runs(Along("people", "p", "age", 31, 2), [], 1)
        self.runs(Along("people", "p", "city", "c", "oslo"), [PEOPLE[0], PEOPLE[2], PEOPLE[3]], 4)

    def test_sift(self):
        self.runs(Sift(OLD, P), [PEOPLE[0]] + PEOPLE[2:], 10)
        self.runs(Sift(NONE, Sift(OLD, P)), [], 14)
        self.runs(Sift(OLD, Sift(NONE, P)), [], 10)

    def test_narrow(self):
        self.runs(Narrow(["p.city", "p.age"], P), sorted([row[1:] for row in PEOPLE]), 10)
        self.runs(Narrow(["p.age"], P), [(9,), (12,), (30,), (30,), (30,)], 10)
        self.runs(Narrow(["p.age"], Sift(NONE, P)), [], 10)

    def test_pairing(self):
        rows = [one + other for one in PEOPLE for other in CITIES]
        self.runs(Pairing(P, C), rows, 5 + 4 + 20)
        rows = [other + one for other in CITIES for one in PEOPLE]
        self.runs(Pairing(C, P), rows, 29)
        self.runs(Pairing(Sift(NONE, P), C), [], 10 + 4 + 0)
        self.runs(Pairing(C, Sift(NONE, P)), [], 14)

    def test_matching_of_one_pair(self):
        rows = [one + other for one in PEOPLE for other in CITIES if one[1] == other[0]]
        self.runs(Matching(P, C, [("p.city", "c.name")]), rows, 5 + 4 + 5 + 4 + 5)
        rows = [other + one for other in CITIES for one in PEOPLE if one[2] == other[1]]
        self.runs(Matching(C, P, [("c.size", "p.age")]), rows, 9 + 9 + 2)
        self.runs(Matching(Sift(NONE, P), C, [("p.city", "c.name")]), [], 10 + 4 + 0 + 4 + 0)
        self.runs(Matching(C, Sift(NONE, P), [("c.name", "p.city")]), [], 14 + 4)

    def test_matching_of_several_pairs(self):
        rows = [one + other for one in PEOPLE for other in PEOPLE if one[1] == other[1] and one[2] == other[2]]
        self.runs(Matching(P, Q, [("p.city", "q.city"), ("p.age", "q.age")]), rows, 5 + 5 + 10 + 7)
        self.runs(Matching(P, Q, [("p.age", "q.age"), ("p.city", "q.city")]), rows, 27)
        self.runs(Matching(P, Q, [("p.age", "q.age"), ("p.age", "q.id")]), [], 20)
        rows = [one + other for one in PEOPLE for other in PEOPLE if one[1] == other[1]]
        self.runs(Matching(P, Q, [("p.city", "q.city"), ("p.city", "q.city")]), rows, 20 + 11)

    def test_fetching(self):
        rows = [one + other for one in PEOPLE for other in CITIES if one[1] == other[0]]
        self.runs(Fetching(P, "cities", "c", "name", "p.city"), rows, 5 + 5 + 5)
        rows = [one + other for one in CITIES for other in PEOPLE if one[0] == other[1]]
        self.runs(Fetching(C, "people", "p", "city", "c.name"), rows, 4 + 4 + 5)
        rows = [one + other for one in CITIES for other in PEOPLE if one[1] == other[2]]
        self.runs(Fetching(C, "people", "p", "age", "c.size"), rows, 4 + 4 + 2)
        self.runs(Fetching(Sift(NONE, P), "cities", "c", "name", "p.city"), [], 10)

    def test_grouping(self):
        self.runs(Grouping(["p.age"], [COUNT], P), [(9, 1), (12, 1), (30, 3)], 10)
        self.runs(Grouping([], [COUNT, ("sum", "p.id", "all")], P), [(5, 14)], 10)
        self.runs(Grouping(["p.age", "p.city"], [], P), [(9, "bergen"), (12, "oslo"), (30, "oslo"), (30, "rome")], 10)
        self.runs(Grouping([], [COUNT], Sift(NONE, P)), [], 10)

    def test_ordering(self):
        self.runs(Ordering([("p.age", True), ("p.city", False)], P),
                  [PEOPLE[0], PEOPLE[3], PEOPLE[4], PEOPLE[2], PEOPLE[1]], 5)
        self.runs(Ordering([("p.city", True), ("p.id", True)], P),
                  [PEOPLE[4], PEOPLE[3], PEOPLE[2], PEOPLE[0], PEOPLE[1]], 5)
        self.runs(Ordering([("p.age", True)], Sift(NONE, P)), [], 10)

    def test_firsts(self):
        self.runs(Firsts(2, P), PEOPLE[:2], 5)
        self.runs(Firsts(0, P), [], 5)
        self.runs(Firsts(1000, P), PEOPLE, 5)
        self.runs(Firsts(2, Ordering([("p.age", True)], P)), [PEOPLE[0], PEOPLE[3]], 5)
        self.runs(Firsts(1, Firsts(2, Ordering([("p.id", True)], P))), [PEOPLE[4]], 5)
        self.runs(Sift(OLD, Firsts(2, Ordering([("p.id", True)], P))), [PEOPLE[3], PEOPLE[4]], 7)

    def test_alike_rows(self):
        ages = Narrow(["p.age"], P)
        sizes = Narrow(["c.size"], C)
        self.runs(ages, [(9,), (12,), (30,), (30,), (30,)], 10)
        self.runs(Matching(ages, sizes, [("p.age", "c.size")]), [(9, 9), (9, 9)], 10 + 8 + 9 + 2)
        self.runs(Fetching(sizes, "people", "q", "age", "c.size"), [(9,) + PEOPLE[1], (9,) + PEOPLE[1]], 8 + 4 + 2)
        self.runs(Firsts(3, Pairing(sizes, ages)), [(1, 9), (1, 12), (1, 30)], 10 + 8 + 20)
        self.runs(Ordering([("p.age", True)], ages), [(30,), (30,), (30,), (12,), (9,)], 10)
        self.runs(Grouping([], [COUNT], Pairing(sizes, ages)), [(20,)], 38 + 20)

    def test_parts_whose_rows_stand_otherwise(self):
        down = Ordering([("p.id", True)], P)
        rows = [one + other for one in PEOPLE for other in CITIES if one[1] == other[0]]
        self.runs(Matching(down, C, [("p.city", "c.name")]), rows, 23)
        self.runs(Fetching(down, "cities", "c", "name", "p.city"), rows, 15)
        self.runs(Pairing(down, C), [one + other for one in PEOPLE for other in CITIES], 29)
        self.runs(Sift(OLD, down), [PEOPLE[0]] + PEOPLE[2:], 10)
        self.runs(Narrow(["p.city", "p.id"], down), sorted([(row[1], row[0]) for row in PEOPLE]), 10)
        self.runs(Matching(C, down, [("c.name", "p.city")]), sorted([row[3:] + row[:3] for row in rows]), 23)

    def test_parts_without_rows(self):
        self.reader = reader_of({})
        for plan, touched in ((P, 0), (Along("people", "p", "id", None, None), 1), (Sift(OLD, P), 0), (Pairing(P, C),
                                                                                                       0),
                              (Matching(P, C, [("p.city", "c.name")]), 0), (Grouping([], [COUNT], P), 0),
                              (Fetching(P, "cities", "c", "name", "p.city"), 0), (Narrow(["p.id"], P), 0),
                              (Ordering([("p.id", True)], P), 0), (Firsts(9, P), 0)):
            self.runs(plan, [], touched)

    def test_one_of_a_fetching_with_rows_and_a_table_without(self):
        self.reader = reader_of({"people": PEOPLE})
        self.runs(Fetching(P, "cities", "c", "name", "p.city"), [], 10)
        self.runs(Matching(P, C, [("p.city", "c.name")]), [], 10)

    def test_a_plan_of_many_pieces(self):
        one = Sift(OLD, Along("people", "p", "age", 12, None))
        other = Fetching(C, "people", "q", "city", "c.name")
        plan = Firsts(1, Ordering([("many", True)], Grouping(["c.name"], [COUNT], Narrow(
            ["q.id", "c.name"], Matching(one, other, [("p.city", "q.city")])))))
        self.runs(plan, [("oslo", 9)], (5 + 4) + (4 + 4 + 5) + (4 + 5 + 10) + 10 + 10)

    def test_a_deep_plan(self):
        plan = Along("people", "p", "id", None, None)
        for turn in range(60):
            plan = Sift(OLD, plan) if turn % 2 else Narrow(["p.age", "p.id"], plan)
        self.runs(plan, [(12, 3), (30, -2), (30, 5), (30, 7)], 6 + 5 + 5 + 58 * 4)

    def test_a_matching_whose_pairs_stand_otherwise(self):
        rows = [one + other for one in PEOPLE for other in CITIES if one[1] == other[0]]
        self.runs(Matching(P, C, [("c.name", "p.city")]), rows, 23)
        self.runs(Matching(P, C, [("p.city", "c.name"), ("p.age", "p.age")]), rows, 23)
        self.runs(Matching(P, C, [("p.city", "c.name"), ("c.size", "c.size")]), rows, 23)
        self.runs(Fetching(P, "cities", "c", "name", "c.name"), [one + other for one in PEOPLE for other in CITIES], 30)


class ReadersTest(RunCase):
    def test_a_dealing_with_writes_of_its_own(self):
        dealing = Dealings(self.makes).begin()
        dealing.put("people", (9, "rome", 12))
        dealing.put("people", (3, "paris", 31))
        dealing.cut("people", -2)
        dealing.put("cities", ("a", 0))
        now = [(1, "bergen", 9), (3, "paris", 31), (5, "oslo", 30), (7, "rome", 30), (9, "rome", 12)]
        self.reader = dealing
        self.runs(P, now, 5)
        self.runs(Along("people", "p", "age", 12, 30), now[2:], 4)
        self.runs(Along("people", "p", "id", None, 1), now[:1], 2)
        rows = [one + other for one in CITIES for other in now if one[0] == other[1]]
        self.runs(Fetching(C, "people", "p", "city", "c.name"), rows, 5 + 5 + 5)
        self.runs(Matching(C, P, [("c.name", "p.city")]), rows, 10 + 10 + 5)
        self.reader = AtMake(self.makes, 0)
        self.runs(P, PEOPLE, 5)
        self.runs(Along("people", "p", "age", 12, 30), [PEOPLE[0]] + PEOPLE[2:], 5)

    def test_a_make_while_others_come(self):
        self.makes.add_make([("people", 1, None), ("people", 4, (4, "rome", 9))])
        self.runs(Along("people", "p", "age", None, 9), [PEOPLE[1]], 2)
        self.reader = AtMake(self.makes, 1)
        self.runs(Along("people", "p", "age", None, 9), [(4, "rome", 9)], 2)

    def plans(self):
        along = Along("people", "p", "id", 9, 3)
        return [P, along, Firsts(0, P), Sift(NONE, P), Narrow(["p.id"], along), Pairing(along, C), Pairing(C, along),
                Matching(along, C, [("p.city", "c.name")]), Fetching(along, "cities", "c", "name", "p.city"),
                Grouping([], [COUNT], along), Ordering([("p.id", True)], along)]

    def test_a_reader_that_refuses(self):
        dealings = Dealings(self.makes)
        over = [dealings.begin(), dealings.begin()]
        dealings.keep_it(over[0])
        dealings.broken(over[1])
        late = AtMake(self.makes, 0)
        self.makes.add_make([])
        self.makes.sweep([])
        for plan in self.plans():
            for dealing in over:
                self.refused(Over, {"number": dealing.number}, run_plan, plan, self.schema, dealing)
            self.refused(NoMake, {"number": 0}, run_plan, plan, self.schema, late)

    def test_the_plan_is_refused_ahead_of_the_reader(self):
        dealings = Dealings(self.makes)
        over = dealings.begin()
        dealings.broken(over)
        size = Along("cities", "c", "size", None, None)
        for reader in (self.reader, over):
            for error, values, plan in (
                    (NoTable, {"table": "towns"}, Through("towns", "t")),
                    (NoColumn, {"name": "x"}, Narrow(["x"], size)),
                    (Alike, {"name": "p.id"}, Pairing(P, P)),
                    (NoOrder, {"table": "cities", "column": "size"}, Pairing(P, size))):
                self.refused(error, values, run_plan, plan, self.schema, reader)

    def test_rows_told_are_the_askers_own(self):
        for plan in self.plans() + [Firsts(9, P)]:
            wanted = run_plan(plan, self.schema, self.reader)
            run_plan(plan, self.schema, self.reader)[0].append(None)
            self.same(run_plan(plan, self.schema, self.reader), wanted)
        self.same(self.reader.rows_of("people"), PEOPLE)

    def test_a_schema_of_one_column(self):
        schema = schema_in("a a:word")
        reader = AtMake(Makes(schema, {"a": [("b",), ("a",)]}), 0)
        plan = Fetching(Along("a", "x", "a", "a", "a"), "a", "y", "a", "x.a")
        self.same(run_plan(plan, schema, reader), ([("a", "a")], 2 + 1 + 1))


class ByChanceTest(RunCase):
    def touched(self, plan):
        """What a run touches, by the rows of the readings."""
        many = len(self.rows_of_reading(plan))
        counts = [len(self.rows_of_reading(part)) for part in plan.parts()]
        beneath = sum(self.touched(part) for part in plan.parts())
        word = plan.told()[0]
        if word in ("through", "along"):
            return many + (word == "along")
        if word in ("sift", "narrow", "grouping"):
            return beneath + counts[0]
        if word == "pairing":
            return beneath + counts[0] * counts[1]
        if word in ("matching", "fetching"):
            return beneath + sum(counts) + many
        return beneath

    def test_runs_tell_the_answers_of_their_readings(self):
        chance = random.Random(12)
        words, seen = {}, 0
        for turn in range(500):
            self.makes = Makes(self.schema, rows_by(chance))
            self.reader = AtMake(self.makes, 0)
            if chance.random() < 0.5:
                self.reader = Dealings(self.makes).begin()
                for key in chance.sample(range(9), 3):
                    self.reader.put("people", (key, chance.choice("abc"), chance.randrange(4)))
            plan = PlanGrowth(chance, 4).plan(6)
            rows = self.rows_of_reading(plan)
            self.runs(plan, rows, self.touched(plan))
            word = plan.told()[0]
            words[word] = words.get(word, 0) + 1
            seen += bool(rows)
        self.assertEqual((len(words), seen > 150), (10, True), words)


if __name__ == "__main__":
    unittest.main()
