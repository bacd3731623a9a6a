"""Trees made again of the tuples by which they are told [75], and [4], [5] of them."""

import random
import re
import unittest

from helper import Case, Growth, ODD_THINGS, SIGNS
from planstore.conditions import And, Compare, Not, Or
from planstore.errors import NoQuestion
from planstore.retold import tree_of
from planstore.trees import Choose, First, Group, Keep, Product, Scan, Sort

P = ("scan", "people", "p")
C = ("scan", "cities", "c")
LIKE = ("compare", "p.city", "=", ("column", "c.name"))
OLD = ("compare", "p.age", ">", ("value", 30))
COUNT = ("count", None, "many")
NAME = "[a-z]{1,8}"
COLUMN = r"[a-z]{1,8}(\.[a-z]{1,8})?"
WHOLE = ("first", 7, ("sort", (("many", True), ("p.city", False)),
         ("group", ("p.city",), (COUNT, ("sum", "p.age", "ages")),
          ("keep", ("p.city", "p.age"), ("choose", ("or", ("not", OLD), ("and", LIKE, OLD)), ("product", P, C))))))


class RetoldCase(Case):
    def again(self, *tolds):
        for told in tolds:
            tree = tree_of(told)
            self.same(tree.told(), told)

    def no(self, *things):
        for thing in things:
            self.refused(NoQuestion, {"place": 0}, tree_of, thing)


def chooses(cond):
    return ("choose", cond, P)


def firsts(many, told=P):
    for turn in range(many):
        told = ("first", 1, told)
    return told


def nots(many, told=OLD):
    for turn in range(many):
        told = ("not", told)
    return told


def full_tree(deep):
    return P if deep == 1 else ("product", full_tree(deep - 1), full_tree(deep - 1))


class AgainTest(RetoldCase):
    def test_each_node(self):
        for told, kind in ((P, Scan), (chooses(OLD), Choose), (("keep", ("p.id",), P), Keep),
                           (("product", P, C), Product),
                           (("group", ("p.id",), (COUNT,), P), Group), (("sort", (("p.id", True),), P), Sort),
                           (("first", 3, P), First)):
            self.assertIs(type(tree_of(told)), kind)
            self.again(told)

    def test_each_condition(self):
        for told, kind in ((OLD, Compare), (LIKE, Compare), (("and", OLD, LIKE), And), (("or", OLD, LIKE), Or),
                           (("not", OLD), Not)):
            self.assertIs(type(tree_of(chooses(told)).cond), kind)
            self.again(chooses(told))

    def test_values_stand_in_their_places(self):
        tree = tree_of(WHOLE)
        self.same((tree.many, tree.part.by, tree.part.part.by), (7, (("many", True), ("p.city", False)), ("p.city",)))
        choose = tree.part.part.part.part
        self.same((choose.cond.first.inside.left, choose.cond.second.first.right), ("p.age", ("column", "c.name")))
        self.same((choose.part.one.alias, choose.part.other.table), ("p", "cities"))
        self.again(WHOLE)

    def test_names(self):
        self.again(("scan", "a", "abcdefgh"), ("scan", "table", "as"),
                   ("keep", ("not", "a.b", "abcdefgh.abcdefgh", "z"), P),
                   ("keep", ("p.id", "p.id"), P))

    def test_signs_and_atoms(self):
        for sign in SIGNS:
            self.again(chooses(("compare", "a", sign, ("value", 0))))
        for value in (-10 ** 9, -1, 0, 10 ** 9, "a", "abcdefgh", "not"):
            self.again(chooses(("compare", "a", "=", ("value", value))))
        self.again(chooses(("compare", "a.b", "=", ("column", "made"))))

    def test_lists_of_groups_sorts_and_firsts(self):
        self.again(("group", (), (COUNT,), P), ("group", ("a",), (), P), ("group", ("a", "a"), (COUNT, COUNT), P),
                   ("group", (), (("sum", "a", "b"), ("least", "x.y", "c"), ("greatest", "a", "d"), COUNT), P),
                   ("sort", (("a", False), ("a", True), ("b.c", False)), P), ("first", 0, P), ("first", 1, P),
                   ("first", 1000, P))

    def test_columns_are_not_asked_for(self):
        self.again(("keep", ("nowhere",), ("scan", "nosuch", "x")), ("product", P, P),
                   ("group", (), (("sum", "a", "a"),), P))

    def test_trees_by_chance(self):
        chance = random.Random(5)
        for turn in range(300):
            tree = Growth(chance).tree(6)
            self.again(tree.told())
            self.same(tree_of(tree.told()).text(), tree.text())

    def test_a_tree_is_made_each_time(self):
        one, other = tree_of(WHOLE), tree_of(WHOLE)
        self.assertIsNot(one, other)
        one.parts().clear()
        self.same(one.told(), other.told())


class BoundsTest(RetoldCase):
    def test_how_deep_a_tree_is(self):
        self.again(firsts(11))
        self.no(firsts(12), firsts(13), firsts(5000))
        self.again(("product", firsts(10), C), ("product", C, firsts(10)))
        self.no(("product", firsts(11), C), ("product", C, firsts(11)))

    def test_each_node_is_one_deep(self):
        for over in (lambda part: ("choose", OLD, part), lambda part: ("keep", ("a",), part),
                     lambda part: ("group", ("a",), (), part),
                     lambda part: ("sort", (("a", True),), part), lambda part: ("first", 1, part),
                     lambda part: ("product", part, C),
                     lambda part: ("product", C, part)):
            self.again(over(firsts(10)))
            self.no(over(firsts(11)))
            told = P
            for turn in range(11):
                told = over(told)
            self.again(told)
            self.no(over(told))

    def test_how_many_nodes_a_tree_has(self):
        self.again(("product", full_tree(5), firsts(7)))
        self.no(("product", full_tree(5), firsts(8)), full_tree(6), full_tree(12))
        deep = P
        for turn in range(100):
            deep = ("product", deep, deep)
        self.no(deep)

    def test_conditions_are_no_nodes(self):
        wide = OLD
        for turn in range(11):
            wide = ("and", wide, OLD)
        tree = P
        for turn in range(11):
            tree = ("choose", wide, tree)
        self.again(tree)

    def test_how_deep_a_condition_is(self):
        for wrap in (lambda cond: cond, lambda cond: ("and", cond, OLD), lambda cond: ("and", OLD, cond),
                     lambda cond: ("or", cond, OLD),
                     lambda cond: ("or", OLD, cond), lambda cond: ("not", cond)):
            self.again(chooses(wrap(nots(10))))
            self.no(chooses(wrap(nots(12))), chooses(wrap(nots(3000))))
        self.again(chooses(nots(11)))
        self.no(chooses(nots(12)))
        for word in ("and", "or"):
            self.again(chooses((word, nots(10), nots(10))))
            self.no(chooses((word, nots(11), OLD)), chooses((word, OLD, nots(11))))

    def test_a_condition_is_not_deeper_for_standing_deep(self):
        told = chooses(nots(11))
        for turn in range(10):
            told = ("choose", nots(11), told)
        self.again(told)

    def test_a_wide_condition(self):
        wide = OLD
        for turn in range(11):
            wide = ("or", wide, wide)
        self.same(tree_of(chooses(wide)).told(), chooses(wide))
        for turn in range(60):
            wide = ("or", wide, wide)
        self.no(chooses(wide))


def places_in(told, path=()):
    """All places in nested tuples, as paths."""
    found = [path]
    if isinstance(told, tuple):
        for place, part in enumerate(told):
            found.extend(places_in(part, path + (place,)))
    return found


def put_in(told, path, thing):
    if not path:
        return thing
    return told[:path[0]] + (put_in(told[path[0]], path[1:], thing),) + told[path[0] + 1:]


def thing_at(told, path):
    for place in path:
        told = told[place]
    return told


def is_text(thing, pattern):
    return isinstance(thing, str) and re.fullmatch(pattern, thing) is not None


def is_list(thing, least, judge):
    return isinstance(thing, tuple) and len(thing) >= least and all(judge(part) for part in thing)


def is_atom(thing):
    if not isinstance(thing, tuple) or len(thing) != 2:
        return False
    number = type(thing[1]) is int and abs(thing[1]) <= 10 ** 9
    return thing[0] == "column" and is_text(thing[1],
                                            COLUMN) or thing[0] == "value" and (number or is_text(thing[1], NAME))


def is_cond(thing):
    """Whether a thing tells a condition, judged once more apart from the program, but for how deep it is."""
    if not isinstance(thing, tuple) or not thing:
        return False
    if thing[0] == "compare":
        return len(thing) == 4 and is_text(thing[1], COLUMN) and is_text(thing[2],
                                                                         "=|<>|<|<=|>|>=") and is_atom(thing[3])
    return {"and": 3, "or": 3, "not": 2}.get(thing[0] if isinstance(thing[0], str) else "") == len(thing) and all(
        is_cond(part) for part in thing[1:])


def is_sum(thing):
    if not isinstance(thing, tuple) or len(thing) != 3 or not is_text(thing[2], NAME):
        return False
    if thing[0] == "count":
        return thing[1] is None
    return is_text(thing[0], "sum|least|greatest") and is_text(thing[1], COLUMN)


def is_tree(thing):
    if not isinstance(thing, tuple) or not thing or not isinstance(thing[0], str):
        return False
    if thing[0] == "scan":
        return len(thing) == 3 and is_text(thing[1], NAME) and is_text(thing[2], NAME)
    if thing[0] == "product":
        return len(thing) == 3 and is_tree(thing[1]) and is_tree(thing[2])
    if thing[0] == "group":
        return (len(thing) == 4 and is_list(thing[1], 0, lambda name: is_text(name, COLUMN)) and is_list(thing[2], 0,
                                                                                                         is_sum)
                and (thing[1] != () or thing[2] != ()) and is_tree(thing[3]))
    judges = {
        "choose": is_cond,
        "keep": lambda kept: is_list(kept, 1, lambda name: is_text(name, COLUMN)),
        "sort": lambda by: is_list(by, 1,
                                   lambda key: isinstance(key, tuple) and len(key) == 2 and is_text(key[0], COLUMN)
                                   and isinstance(key[1], bool)),
        "first": lambda many: type(many) is int and 0 <= many <= 1000,
    }
    return thing[0] in judges and len(thing) == 3 and judges[thing[0]](thing[1]) and is_tree(thing[2])


class LikeAll:
    """A thing that says of itself that it is like any other."""

    def __eq__(self, other):
        return True

    def __hash__(self):
        return hash("scan")


class WrongTest(RetoldCase):
    def test_odd_things(self):
        self.no(*ODD_THINGS)
        self.no("table people", "scan", ("scan",), ("people", "p"), Scan("people", "p"), tree_of(P))

    def test_odd_things_in_each_place(self):
        odd = [None, True, 7, -1, 1.0, "", "Ab", "a b", "a.b.c", ".", "ninelette", b"a", (), [], {}, set(), object(),
               P, OLD, COUNT, Not(OLD), "keep", "a", "a.b", ("value", "a"), ("column", "a"), (("a", True),)]
        stood = 0
        for path in places_in(WHOLE):
            for thing in odd:
                changed = put_in(WHOLE, path, thing)
                if is_tree(changed):
                    stood += 1
                    self.again(changed)
                else:
                    self.no(changed)
        self.assertGreater(stood, 50)

    def test_a_thing_that_is_like_any_other(self):
        self.no(LikeAll())
        for path in places_in(WHOLE):
            self.no(put_in(WHOLE, path, LikeAll()))

    def test_lists_in_the_place_of_tuples(self):
        for path in places_in(WHOLE):
            there = thing_at(WHOLE, path)
            if isinstance(there, tuple):
                self.no(put_in(WHOLE, path, list(there)))

    def test_tuples_with_one_thing_more_or_less(self):
        for path in places_in(WHOLE):
            there = thing_at(WHOLE, path)
            if isinstance(there, tuple):
                for other in (there + (None,), there + there[-1:], there[:-1], there[1:], there[::-1], there + ((),)):
                    changed = put_in(WHOLE, path, other)
                    if is_tree(changed):
                        self.again(changed)
                    else:
                        self.no(changed)

    def test_names_that_are_none(self):
        for wrong in ("", "A", "a.b", "ninelette", "a1", "p ", "tab_le", None, 1, ("a",), "\u00e4"):
            self.no(("scan", wrong, "p"), ("scan", "p", wrong), ("group", (), (("count", None, wrong),), P),
                    ("group", (), (("sum", "a", wrong),), P))

    def test_column_names_that_are_none(self):
        for wrong in ("", "A", ".a", "a.", ".", "a.b.c", "ninelette", "a.ninelette", "ninelette.a", "a b", "p.1",
                      "'a'", None, 7, ("a",), True):
            self.no(("keep", (wrong,), P), ("keep", ("a", wrong), P), ("group", (wrong,), (COUNT,), P),
                    ("group", (), (("sum", wrong, "a"),), P),
                    ("sort", ((wrong, True),), P), chooses(("compare", wrong, "=", ("value", 1))),
                    chooses(("compare", "a", "=", ("column", wrong))))

    def test_signs_and_atoms_that_are_none(self):
        for wrong in ("==", "!=", "", " ", "=<", "is", "<>=", None, 1, ("=",)):
            self.no(chooses(("compare", "a", wrong, ("value", 1))))
        for wrong in (10 ** 9 + 1, -10 ** 9 - 1, 10 ** 39, True, False, 1.0, "", "A", "'a'", "ninelette", "p.id", None,
                      (1,), ("a",)):
            self.no(chooses(("compare", "a", "=", ("value", wrong))))
        for wrong in (("Value", 1), ("name", "a"), ("value",), ("column",), ("value", 1, 1), ("column", "a", "a"),
                      (None, 1), "a", 1, ()):
            self.no(chooses(("compare", "a", "=", wrong)))

    def test_words_that_are_none(self):
        self.no(("Scan", "people", "p"), ("through", "people", "p"), ("", "people", "p"), (None, "people", "p"),
                ("choose ", OLD, P),
                ("chose", OLD, P), ("sort", ("p.id",), P), ("limit", 3, P), ("product", P), ("group", ("a",), P),
                ("join", P, C),
                chooses(("xor", OLD, OLD)), chooses(("not", OLD, OLD)), chooses(("and", OLD)),
                chooses(("compare", OLD)), chooses(P), ("choose", P, P),
                ("first", 3, OLD))

    def test_lists_that_have_not_what_they_need(self):
        self.no(("keep", (), P), ("group", (), (), P), ("sort", (), P))
        for wrong in (-1, 1001, 10 ** 9, True, False, None, "3", 1.0, ()):
            self.no(("first", wrong, P))
        for wrong in (1, 0, None, "down", "", ()):
            self.no(("sort", (("a", wrong),), P), ("sort", (("b", True), ("a", wrong)), P))
        self.no(("sort", ("a", True), P), ("sort", ("a",), P), ("sort", (("a",),), P),
                ("sort", (("a", True, True),), P))

    def test_sums_that_are_none(self):
        for wrong in (("count", "a", "b"), ("count", "b"), ("count", None), ("sum", None, "a"), ("least", None, "a"),
                      ("greatest", None, "a"),
                      ("avg", "a", "b"), ("Count", None, "a"), (None, None, "a"), ("most", None, "a"), "sum",
                      ("sum", "a"),
                      ("sum", "a", "b", "c"), (("count",), None, "a")):
            self.no(("group", ("a",), (wrong,), P), ("group", (), (COUNT, wrong), P))
        self.no(("group", ("a",), COUNT, P), ("group", "a", (COUNT,), P), ("group", ("a",), None, P),
                ("group", None, (COUNT,), P))

    def test_what_is_wrong_far_beneath(self):
        self.no(firsts(10, ("scan", "people", "P")), ("product", P, ("product", C, ("scan", "a"))),
                chooses(nots(10, ("compare", "a", "=", 1))))


if __name__ == "__main__":
    unittest.main()
