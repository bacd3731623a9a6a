"""Bounds of questions: how deep trees and conditions are, and how many nodes there are."""

from planstore.trees import Choose

MOST_DEEP = 12
MOST_NODES = 40
MOST_FIRST = 1000


# Of a tree or a condition. It looks no deeper than it is asked, however deep the thing is.
def is_deeper(thing, deep):
    if deep == 0:
        return True
    for part in thing.parts():
        if is_deeper(part, deep - 1):
            return True
    return False


def nodes_in(tree):
    nodes = [tree]
    for part in tree.parts():
        nodes.extend(nodes_in(part))
    return nodes


def is_within_bounds(tree):
    if is_deeper(tree, MOST_DEEP):
        return False
    nodes = nodes_in(tree)
    conds = [node.cond for node in nodes if isinstance(node, Choose)]
    return len(nodes) <= MOST_NODES and not any([is_deeper(cond, MOST_DEEP) for cond in conds])
