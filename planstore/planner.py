"""From a question to its plan: the cheapest one of each weave, and a paper that leads to its reading."""

from planstore.costs import all_leaves
from planstore.errors import NoPlan
from planstore.figures import Figures
from planstore.least import Weave, least_table, plan_by
from planstore.plans import Firsts, Grouping, Narrow, Ordering, Through
from planstore.trees import Choose, Group, Keep, Product, Scan, Sort, leaves_beneath, names_told
from planstore.weaving import one_form, path_to_leaf, steps_beneath, steps_to, woven

MOST_LEAVES = 5


def is_weave(tree):
    return isinstance(tree, (Choose, Keep, Product))


# All weaves are looked at ahead of any planning, whose work grows fast with the leaves.
def need_few_leaves(tree):
    leaves = leaves_beneath(tree)
    if len(leaves) > MOST_LEAVES:
        raise NoPlan()
    for leaf in leaves:
        for part in leaf.parts():
            need_few_leaves(part)


def piece_over(tree, part):
    if isinstance(tree, Group):
        return Grouping(tree.by, tree.sums, part)
    if isinstance(tree, Sort):
        return Ordering(tree.by, part)
    return Firsts(tree.many, part)


def weave_planned(tree, schema, figures):
    came = woven(tree, schema)
    conds = came[1]
    steps = came[2]
    beneath = [tree_planned(leaf, schema, figures) for leaf in came[0]]
    made = {}
    for number, leaf in enumerate(came[0]):
        steps.extend(steps_beneath(path_to_leaf(number, len(beneath), len(conds)), beneath[number][1]))
        if not isinstance(leaf, Scan):
            made[number] = beneath[number][0]
    # behind these steps the leaves stand as their plans read
    leaves = [plan.reading() for plan, behind in beneath]
    weave = Weave(schema, leaves, conds, made)
    plan = plan_by(weave, least_table(weave, figures), all_leaves(leaves))
    names = names_told(tree, schema)
    steps.extend(steps_to(one_form(names, leaves, conds), plan.reading(), schema))
    return (Narrow(names, plan), steps)


def tree_planned(tree, schema, figures):
    if isinstance(tree, Scan):
        return (Through(tree.table, tree.alias), [])
    if is_weave(tree):
        return weave_planned(tree, schema, figures)
    beneath = tree_planned(tree.part, schema, figures)
    return (piece_over(tree, beneath[0]), steps_beneath((0,), beneath[1]))


def planned(tree, schema, reader):
    # asked for what the columns are refused for
    tree.columns_told(schema)
    figures = Figures(schema, reader)
    need_few_leaves(tree)
    return tree_planned(tree, schema, figures)
