"""Bounds of trees and costs of plans: how many rows may come, and how much may be touched, by figures."""

from planstore.conditions import And, Compare
from planstore.plans import Along, looked_at
from planstore.trees import Choose, First, Group, Keep, Product, Scan, leaves_beneath, names_told


def leaves_of(tree):
    return leaves_beneath(tree)


def parted_conds(cond):
    if not isinstance(cond, And):
        return [cond]
    return parted_conds(cond.first) + parted_conds(cond.second)


def conds_of(tree):
    if not isinstance(tree, (Choose, Keep, Product)):
        return []
    conds = parted_conds(tree.cond) if isinstance(tree, Choose) else []
    for part in tree.parts():
        conds.extend(conds_of(part))
    return conds


# The number of the leaf that has a column, by the column's name.
def homes_of(leaves, schema):
    homes = {}
    for number, leaf in enumerate(leaves):
        for name in names_told(leaf, schema):
            homes[name] = number
    return homes


# A set of leaves is a whole number, leaf k being in it where its bit k is set.
def leaves_in(mask):
    return [leaf for leaf in range(mask.bit_length()) if (mask >> leaf) & 1]


def all_leaves(leaves):
    return (1 << len(leaves)) - 1


def is_with_value(cond):
    return isinstance(cond, Compare) and cond.right[0] == "value"


def is_equality(cond):
    return isinstance(cond, Compare) and cond.sign == "=" and cond.right[0] == "column"


# The table's own name of a column that is called by the scan's alias.
def column_of(scan, name):
    return name[len(scan.alias) + 1:]


def bound_by_part(leaf, schema, figures):
    bound = most_rows(leaf.part, schema, figures)
    if isinstance(leaf, First):
        return min(leaf.many, bound)
    if isinstance(leaf, Group) and leaf.by == ():
        return min(1, bound)
    return bound


# Bounds of sets of some leaves, by those of some conditions that are done there.
class Bounds:
    def __init__(self, leaves, conds, schema, figures):
        self.leaves = tuple(leaves)
        self.figures = figures
        self.homes = homes_of(leaves, schema)
        self.alone = []
        for leaf in leaves:
            is_scan = isinstance(leaf, Scan)
            self.alone.append(figures.count(leaf.table) if is_scan else bound_by_part(leaf, schema, figures))
        self.caps = [self.caps_by(cond) for cond in conds]
        # the same sets are asked for over and over while ways to greater ones are weighed
        self.known = {}

    # A cap is a tuple (leaf, beside, most): most is the greatest fan of the leaf where all leaves of beside are there.
    def caps_by(self, cond):
        caps = []
        for part in parted_conds(cond):
            if is_with_value(part):
                caps.extend(self.caps_by_value(part))
            if is_equality(part):
                caps.extend(self.caps_by_column(part.left, part.right[1]))
                caps.extend(self.caps_by_column(part.right[1], part.left))
        return caps

    def caps_by_value(self, cond):
        home = self.homes[cond.left]
        leaf = self.leaves[home]
        if not isinstance(leaf, Scan):
            return []
        return [(home, 0, self.figures.meeting(leaf.table, column_of(leaf, cond.left), cond.sign, cond.right[1]))]

    def caps_by_column(self, name, other):
        home = self.homes[name]
        leaf = self.leaves[home]
        if home == self.homes[other] or not isinstance(leaf, Scan):
            return []
        return [(home, 1 << self.homes[other], self.figures.most_of(leaf.table, column_of(leaf, name)))]

    def fan(self, leaf, mask, done):
        most = self.alone[leaf]
        for number in done:
            for capped, beside, cap in self.caps[number]:
                if capped == leaf and beside & mask == beside:
                    most = min(most, cap)
        return most

    def reckoned(self, mask, done):
        # of the set without leaves there is one row, without values
        bounds = {0: 1}
        for part in range(1, mask + 1):
            if part & mask == part:
                beneath = [bounds[part ^ (1 << leaf)] * self.fan(leaf, part, done) for leaf in leaves_in(part)]
                bounds[part] = min(beneath)
        return bounds[mask]

    # done are the numbers of conditions, rising.
    def bound_of(self, mask, done):
        asked = (mask, tuple(done))
        if asked not in self.known:
            self.known[asked] = self.reckoned(mask, done)
        return self.known[asked]


def most_rows(tree, schema, figures):
    leaves = leaves_of(tree)
    conds = conds_of(tree)
    return Bounds(leaves, conds, schema, figures).bound_of(all_leaves(leaves), list(range(len(conds))))


def cost_of(plan, schema, figures):
    if isinstance(plan, Along):
        # the bound of its reading knows each of two bounds by itself alone
        return looked_at("along", [], figures.between(plan.table, plan.column, plan.low, plan.high))
    parts = plan.parts()
    cost = sum([cost_of(part, schema, figures) for part in parts])
    bounds = [most_rows(part.reading(), schema, figures) for part in parts]
    return cost + looked_at(plan.piece_word(), bounds, most_rows(plan.reading(), schema, figures))
