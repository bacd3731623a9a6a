"""Trees made again of the nested tuples by which they are told."""

from planstore.bounds import MOST_DEEP, MOST_FIRST, MOST_NODES
from planstore.conditions import SIGNS, And, Compare, Not, Or
from planstore.errors import NoQuestion
from planstore.trees import SUM_WORDS, Choose, First, Group, Keep, Product, Scan, Sort
from planstore.words import is_column_name, is_name, is_value, is_whole


def need(truth):
    if not truth:
        raise NoQuestion(0)


def is_tuple_of(thing, many):
    return isinstance(thing, tuple) and len(thing) == many


def is_told_as(thing, word, many):
    # isinstance first: a thing of any kind may stand in the word's place
    return is_tuple_of(thing, many) and isinstance(thing[0], str) and thing[0] == word


def is_atom(thing):
    if is_told_as(thing, "column", 2):
        return is_column_name(thing[1])
    return is_told_as(thing, "value", 2) and (is_value("number", thing[1]) or is_value("word", thing[1]))


def compare_from(left, sign, right):
    need(is_column_name(left) and isinstance(sign, str) and sign in SIGNS and is_atom(right))
    return Compare(left, sign, right)


# Room is how deep the thing may be; so nothing is walked beyond it, however deep it is.
def cond_from(thing, room):
    need(room > 0)
    if is_told_as(thing, "compare", 4):
        return compare_from(thing[1], thing[2], thing[3])
    if is_told_as(thing, "not", 2):
        return Not(cond_from(thing[1], room - 1))
    if is_told_as(thing, "and", 3):
        return And(cond_from(thing[1], room - 1), cond_from(thing[2], room - 1))
    need(is_told_as(thing, "or", 3))
    return Or(cond_from(thing[1], room - 1), cond_from(thing[2], room - 1))


def column_names_from(thing):
    need(isinstance(thing, tuple) and all([is_column_name(name) for name in thing]))
    return thing


def is_sum(thing):
    if not is_tuple_of(thing, 3) or not is_name(thing[2]):
        return False
    if not isinstance(thing[0], str) or thing[0] not in SUM_WORDS:
        return False
    return thing[1] is None if thing[0] == "count" else is_column_name(thing[1])


def sums_from(thing):
    need(isinstance(thing, tuple) and all([is_sum(part) for part in thing]))
    return thing


def is_sort_key(thing):
    return is_tuple_of(thing, 2) and is_column_name(thing[0]) and isinstance(thing[1], bool)


def sort_keys_from(thing):
    need(isinstance(thing, tuple) and all([is_sort_key(part) for part in thing]))
    need(thing != ())
    return thing


def scan_from(table, alias):
    need(is_name(table) and is_name(alias))
    return Scan(table, alias)


def keep_from(thing, part):
    kept = column_names_from(thing)
    need(kept != ())
    return Keep(kept, part)


def group_from(by, sums, part):
    group = Group(column_names_from(by), sums_from(sums), part)
    need(group.by != () or group.sums != ())
    return group


def first_from(many, part):
    need(is_whole(many) and 0 <= many <= MOST_FIRST)
    return First(many, part)


class Retelling:
    def __init__(self):
        # counted down as nodes are met, so that no thing is walked at great length
        self.nodes_left = MOST_NODES

    def tree_from(self, thing, room):
        need(room > 0 and self.nodes_left > 0)
        self.nodes_left -= 1
        if is_told_as(thing, "scan", 3):
            return scan_from(thing[1], thing[2])
        if is_told_as(thing, "product", 3):
            return Product(self.tree_from(thing[1], room - 1), self.tree_from(thing[2], room - 1))
        if is_told_as(thing, "group", 4):
            return group_from(thing[1], thing[2], self.tree_from(thing[3], room - 1))
        need(is_tuple_of(thing, 3))
        return self.over_part(thing, self.tree_from(thing[2], room - 1))

    # The other nodes: each of one thing and a part.
    def over_part(self, thing, part):
        if is_told_as(thing, "choose", 3):
            return Choose(cond_from(thing[1], MOST_DEEP), part)
        if is_told_as(thing, "keep", 3):
            return keep_from(thing[1], part)
        if is_told_as(thing, "sort", 3):
            return Sort(sort_keys_from(thing[1]), part)
        need(is_told_as(thing, "first", 3))
        return first_from(thing[1], part)


def tree_of(told):
    return Retelling().tree_from(told, MOST_DEEP)
