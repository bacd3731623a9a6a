"""Weaves: papers from a tree of chooses, keeps and products to its one form, and from there to a target."""

from planstore.conditions import And
from planstore.costs import parted_conds
from planstore.rules import mirror_of
from planstore.trees import Choose, Keep, Product

# A rule that leads back, by the word of the one that leads there.
BACK = {"part": "unite", "outofone": "intoone", "outofother": "intoother", "regroupone": "regroupother"}


# The same steps, put to a tree that stands where the path leads.
def steps_beneath(path, steps):
    return [(word, path + behind) for word, behind in steps]


def steps_down(word, path, many):
    return [(word, path + (0,) * turn) for turn in range(many)]


# From Choose(cond, x) to one choose for each condition between its topmost ands.
def parting_steps(cond):
    if not isinstance(cond, And):
        return []
    beneath = (0,) * len(parted_conds(cond.first))
    return [("part", ())] + parting_steps(cond.first) + steps_beneath(beneath, parting_steps(cond.second))


# What comes of a tree: its leaves, its conditions, and the steps to its one form. It has a keep where one was there
# already: over a leaf alone none can be put where that is a sort or a first.
class Gathered:
    def __init__(self, has_keep, leaves, conds, steps):
        self.has_keep = has_keep
        self.leaves = leaves
        self.conds = conds
        self.steps = steps


def gathered(tree):
    if isinstance(tree, Keep):
        return gathered_keep(tree)
    if isinstance(tree, Choose):
        return gathered_choose(tree)
    if isinstance(tree, Product):
        return gathered_product(tree)
    return Gathered(False, [tree], [], [])


def gathered_keep(tree):
    part = gathered(tree.part)
    steps = steps_beneath((0,), part.steps)
    if part.has_keep:
        steps.append(("keeponce", ()))
    return Gathered(True, part.leaves, part.conds, steps)


def gathered_choose(tree):
    part = gathered(tree.part)
    steps = steps_beneath((0,), part.steps)
    path = ()
    if part.has_keep:
        steps.append(("keepup", ()))
        path = (0,)
    steps.extend(steps_beneath(path, parting_steps(tree.cond)))
    return Gathered(part.has_keep, part.leaves, parted_conds(tree.cond) + part.conds, steps)


# The keeps of both parts of a product go up and become one.
def product_keep_steps(one, other):
    if one.has_keep and other.has_keep:
        return [("keepone", ()), ("keepother", (0,)), ("keeponce", ())]
    if one.has_keep:
        return [("keepone", ())]
    return [("keepother", ())] if other.has_keep else []


def gathered_product(tree):
    one = gathered(tree.one)
    other = gathered(tree.other)
    has_keep = one.has_keep or other.has_keep
    steps = steps_beneath((0,), one.steps) + steps_beneath((1,), other.steps) + product_keep_steps(one, other)
    path = (0,) if has_keep else ()
    steps.extend(steps_down("outofone", path, len(one.conds)))
    path = path + (0,) * len(one.conds)
    steps.extend(steps_down("outofother", path, len(other.conds)))
    path = path + (0,) * len(other.conds)
    # the other's last leaf comes to stand alone first, then beneath it the one ahead of that
    steps.extend(steps_down("regroupone", path, len(other.leaves) - 1))
    return Gathered(has_keep, one.leaves + other.leaves, one.conds + other.conds, steps)


def woven(tree, schema):
    came = gathered(tree)
    # topmost is a choose or a product then, over which a keep can be put
    steps = came.steps if came.has_keep else came.steps + [("keepnone", ())]
    return (came.leaves, came.conds, steps)


def one_form(names, leaves, conds):
    tree = leaves[0]
    for leaf in leaves[1:]:
        tree = Product(tree, leaf)
    for cond in reversed(conds):
        tree = Choose(cond, tree)
    return Keep(names, tree)


# The path to the product of the leaves up to this one in a one form, to the leaf itself where it is the first.
def path_up_to(leaf, leaves_many, conds_many):
    return (0,) * (conds_many + leaves_many - leaf)


def path_to_leaf(leaf, leaves_many, conds_many):
    path = path_up_to(leaf, leaves_many, conds_many)
    return path if leaf == 0 else path + (1,)


# A keep at the path goes up through products and chooses, and into the keep of the one form.
def rising_steps(path, conds_many):
    steps = []
    while len(path) > 1:
        path = path[:-1]
        steps.append(("keepone" if len(path) > conds_many else "keepup", path))
    return steps + [("keeponce", ())]


# A leaf of a one form changes places with the one behind it.
def turning_steps(leaf, leaves_many, conds_many):
    path = path_up_to(leaf + 1, leaves_many, conds_many)
    steps = [("turn", path)]
    if leaf > 0:
        steps = [("regroupother", path), ("turn", path + (1,)), ("keepother", path), ("regroupone", path + (0,))]
    return steps + rising_steps(path, conds_many)


def moved_ahead(things, place, to):
    return things[:to] + [things[place]] + things[to:place] + things[place + 1:]


def leaf_steps(leaves, wanted, conds_many):
    steps = []
    order = [leaf.told() for leaf in leaves]
    for to, leaf in enumerate(wanted):
        place = order.index(leaf.told())
        for turn in range(place - 1, to - 1, -1):
            steps.extend(turning_steps(turn, len(leaves), conds_many))
        order = moved_ahead(order, place, to)
    return steps


# Where a condition stands among some, as it is or else mirrored.
def place_of(conds, wanted):
    told = [cond.told() for cond in conds]
    if wanted.told() in told:
        return told.index(wanted.told())
    return told.index(mirror_of(wanted).told())


def cond_steps(conds, wanted):
    steps = []
    order = conds
    for to, cond in enumerate(wanted):
        place = to + place_of(order[to:], cond)
        steps.extend([("swap", (0,) * (turn + 1)) for turn in range(place - 1, to - 1, -1)])
        if order[place].told() != cond.told():
            steps.append(("mirror", (0,) * (to + 1)))
        order = moved_ahead(order, place, to)
    return steps


def steps_to(form, target, schema):
    start = gathered(form)
    end = gathered(target)
    steps = start.steps + leaf_steps(start.leaves, end.leaves, len(start.conds)) + cond_steps(start.conds, end.conds)
    # now the leaves and conditions stand as those of the target's own one form, and what leads there leads back
    back = [(BACK[word], path) for word, path in reversed(end.steps)]
    return steps + steps_beneath((0,), back)
