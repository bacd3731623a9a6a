"""Papers of steps: rules put to nodes of a tree, one behind the other."""

from planstore.errors import NoStep
from planstore.rules import rule_by
from planstore.words import is_whole


# From the tree itself to the node to which the path leads; None where it leads to none.
def nodes_along(tree, path):
    if not isinstance(path, tuple):
        return None
    nodes = [tree]
    for number in path:
        parts = nodes[-1].parts()
        # is_whole first: True is like 1, but no number of a part
        if not is_whole(number) or not 0 <= number < len(parts):
            return None
        nodes.append(parts[number])
    return nodes


def at_path(tree, path):
    nodes = nodes_along(tree, path)
    return None if nodes is None else nodes[-1]


def put_at(tree, path, node):
    nodes = nodes_along(tree, path)
    if nodes is None:
        return None
    put = node
    # the lowest first, as trees are never changed: each node above is made anew over what is put
    for above, number in reversed(list(zip(nodes, path))):
        parts = above.parts()
        parts[number] = put
        put = above.with_parts(parts)
    return put


def step_done(tree, step, schema):
    if not isinstance(step, tuple) or len(step) != 2:
        return None
    rule = rule_by(step[0])
    node = at_path(tree, step[1])
    if rule is None or node is None:
        return None
    after = rule.applied(node, schema)
    return None if after is None else put_at(tree, step[1], after)


def walked(tree, steps, schema):
    for place, step in enumerate(steps):
        after = step_done(tree, step, schema)
        if after is None:
            raise NoStep(place)
        tree = after
    return tree


def shows(tree, steps, other, schema):
    if not isinstance(steps, list):
        return False
    try:
        after = walked(tree, steps, schema)
    except NoStep:
        return False
    return after.told() == other.told()
