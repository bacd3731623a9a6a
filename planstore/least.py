"""The cheapest plan of a weave: ways to sets of its leaves, and tables of their least costs."""

from planstore.costs import (Bounds, all_leaves, column_of, cost_of, homes_of, is_equality, is_with_value, leaves_in)
from planstore.plans import Along, Fetching, Matching, Pairing, Sift, Through, looked_at
from planstore.trees import Scan
from planstore.words import is_whole

ALONG_SIGNS = ("=", "<=", ">=")


# The set of the leaves that have the names in a condition.
def reach_of(cond, homes):
    mask = 0
    for name in cond.names_in():
        mask |= 1 << homes[name]
    return mask


class Weave:
    def __init__(self, schema, leaves, conds, made):
        self.schema = schema
        self.leaves = list(leaves)
        self.conds = list(conds)
        self.made = dict(made)
        self.homes = homes_of(leaves, schema)
        self.reaches = [reach_of(cond, self.homes) for cond in conds]

    # The scan of a set of one leaf, None of any other set.
    def scan_of(self, mask):
        numbers = leaves_in(mask)
        if len(numbers) != 1 or not isinstance(self.leaves[numbers[0]], Scan):
            return None
        return self.leaves[numbers[0]]

    def has_column(self, mask, name):
        return (mask >> self.homes[name]) & 1 == 1

    def conds_within(self, mask):
        return [number for number, reach in enumerate(self.reaches) if reach & mask == reach]

    # The columns of an equality, that of one first; None where it is none between these sets.
    def ends_of(self, number, one, other):
        cond = self.conds[number]
        if not is_equality(cond):
            return None
        left = cond.left
        right = cond.right[1]
        if self.has_column(one, left) and self.has_column(other, right):
            return (left, right)
        if self.has_column(one, right) and self.has_column(other, left):
            return (right, left)
        return None

    def equalities(self, one, other):
        return [number for number in range(len(self.conds)) if self.ends_of(number, one, other) is not None]


def can_go_along(weave, scan, cond):
    if not is_with_value(cond) or cond.sign not in ALONG_SIGNS:
        return False
    return weave.schema.has_order(scan.table, column_of(scan, cond.left))


def accesses(weave, leaf):
    scan = weave.scan_of(1 << leaf)
    if scan is None:
        return [("made",)]
    ways = [("through",)]
    for number in weave.conds_within(1 << leaf):
        if can_go_along(weave, scan, weave.conds[number]):
            ways.append(("along", number))
    return ways


def can_fetch(weave, one, other, number):
    scan = weave.scan_of(other)
    if scan is None:
        return False
    return weave.schema.has_order(scan.table, column_of(scan, weave.ends_of(number, one, other)[1]))


def joins(weave, one, other):
    ways = [("pairing", one, other)]
    numbers = weave.equalities(one, other)
    if numbers:
        ways.append(("matching", one, other))
    ways.extend([("fetching", one, number) for number in numbers if can_fetch(weave, one, other, number)])
    return ways


def ways_for(weave, mask):
    numbers = leaves_in(mask)
    if len(numbers) == 1:
        return accesses(weave, numbers[0])
    ways = []
    for one in range(1, mask):
        if one & mask == one:
            ways.extend(joins(weave, one, mask ^ one))
    return ways


# The numbers of the conditions that a way's piece does itself, or that were done beneath it, rising.
def done_by(weave, mask, way):
    if way[0] in ("through", "made"):
        return []
    if way[0] == "along":
        return [way[1]]
    done = weave.conds_within(way[1])
    if way[0] == "fetching":
        return sorted(done + [way[2]])
    done = done + weave.conds_within(way[2])
    if way[0] == "matching":
        done = done + weave.equalities(way[1], way[2])
    return sorted(done)


def left_to_sift(weave, mask, done):
    return [number for number in weave.conds_within(mask) if number not in done]


def along_piece(scan, cond):
    value = cond.right[1]
    low = None if cond.sign == "<=" else value
    high = None if cond.sign == ">=" else value
    return Along(scan.table, scan.alias, column_of(scan, cond.left), low, high)


# Of a way to one leaf.
def access_piece(weave, mask, way):
    if way[0] == "made":
        return weave.made[leaves_in(mask)[0]]
    scan = weave.scan_of(mask)
    if way[0] == "through":
        return Through(scan.table, scan.alias)
    return along_piece(scan, weave.conds[way[1]])


def join_piece(weave, table, mask, way):
    one = plan_by(weave, table, way[1])
    if way[0] == "fetching":
        scan = weave.scan_of(mask ^ way[1])
        ends = weave.ends_of(way[2], way[1], mask ^ way[1])
        return Fetching(one, scan.table, scan.alias, column_of(scan, ends[1]), ends[0])
    other = plan_by(weave, table, way[2])
    if way[0] == "pairing":
        return Pairing(one, other)
    pairs = [weave.ends_of(number, way[1], way[2]) for number in weave.equalities(way[1], way[2])]
    return Matching(one, other, pairs)


def is_one_leaf(mask):
    return len(leaves_in(mask)) == 1


def plan_by(weave, table, mask):
    way = table[mask][1]
    plan = access_piece(weave, mask, way) if is_one_leaf(mask) else join_piece(weave, table, mask, way)
    for number in left_to_sift(weave, mask, done_by(weave, mask, way)):
        plan = Sift(weave.conds[number], plan)
    return plan


def bounds_of(weave, figures):
    return Bounds(weave.leaves, weave.conds, weave.schema, figures)


def join_cost(weave, table, mask, way, bounds):
    parts = [way[1]] if way[0] == "fetching" else [way[1], way[2]]
    counts = [bounds.bound_of(part, weave.conds_within(part)) for part in parts]
    many = bounds.bound_of(mask, done_by(weave, mask, way))
    return sum([table[part][0] for part in parts]) + looked_at(way[0], counts, many)


def cost_within(weave, table, mask, way, bounds):
    if is_one_leaf(mask):
        cost = cost_of(access_piece(weave, mask, way), weave.schema, bounds.figures)
    else:
        cost = join_cost(weave, table, mask, way, bounds)
    done = done_by(weave, mask, way)
    for number in left_to_sift(weave, mask, done):
        cost += looked_at("sift", [bounds.bound_of(mask, done)], None)
        done = sorted(done + [number])
    return cost


def cost_by(weave, table, mask, way, figures):
    return cost_within(weave, table, mask, way, bounds_of(weave, figures))


def least_way(weave, table, mask, bounds):
    least = None
    for way in ways_for(weave, mask):
        cost = cost_within(weave, table, mask, way, bounds)
        # the first of several ways of one cost stays
        if least is None or cost < least[0]:
            least = (cost, way)
    return least


def least_table(weave, figures):
    bounds = bounds_of(weave, figures)
    table = {}
    # each set comes behind all lesser ones that are parts of it
    for mask in range(1, all_leaves(weave.leaves) + 1):
        table[mask] = least_way(weave, table, mask, bounds)
    return table


# Whether a thing is a way in form: True is like 1, but no number of a condition or a set.
def is_in_form(thing):
    if not isinstance(thing, tuple) or len(thing) == 0 or not isinstance(thing[0], str):
        return False
    return all([is_whole(number) for number in thing[1:]])


def is_entry(weave, mask, thing):
    if not isinstance(thing, tuple) or len(thing) != 2:
        return False
    return is_whole(thing[0]) and is_in_form(thing[1]) and thing[1] in ways_for(weave, mask)


def is_table(weave, thing):
    if not isinstance(thing, dict) or len(thing) != all_leaves(weave.leaves):
        return False
    for mask in thing:
        if not is_whole(mask) or not 1 <= mask <= all_leaves(weave.leaves):
            return False
    return all([is_entry(weave, mask, thing[mask]) for mask in thing])


def table_holds(weave, table, figures):
    # the form first: costs are reckoned by what the table itself tells
    if not is_table(weave, table):
        return False
    bounds = bounds_of(weave, figures)
    for mask in table:
        costs = [cost_within(weave, table, mask, way, bounds) for way in ways_for(weave, mask)]
        if table[mask][0] != min(costs) or table[mask][0] != cost_within(weave, table, mask, table[mask][1], bounds):
            return False
    return True
