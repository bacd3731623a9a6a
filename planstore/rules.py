"""Rules: each makes another tree of a tree, with the same columns and the same answer."""

from planstore.conditions import And, Compare
from planstore.trees import Choose, First, Group, Keep, Product, Sort, names_told

MIRRORED = {"=": "=", "<>": "<>", "<": ">", ">": "<", "<=": ">=", ">=": "<="}


def all_among(names, others):
    return all([name in others for name in names])


def is_two_chooses(tree):
    return isinstance(tree, Choose) and isinstance(tree.part, Choose)


def is_choose_of_product(tree):
    return isinstance(tree, Choose) and isinstance(tree.part, Product)


# A keep puts the rows in order by the whole row, which undoes the order of these.
def has_order_of_its_own(tree):
    return isinstance(tree, (Sort, First))


def parted(tree, schema):
    if not isinstance(tree, Choose) or not isinstance(tree.cond, And):
        return None
    return Choose(tree.cond.first, Choose(tree.cond.second, tree.part))


def united(tree, schema):
    if not is_two_chooses(tree):
        return None
    return Choose(And(tree.cond, tree.part.cond), tree.part.part)


def swapped(tree, schema):
    if not is_two_chooses(tree):
        return None
    return Choose(tree.part.cond, Choose(tree.cond, tree.part.part))


def with_cleared(tree, schema):
    return Choose(tree.cond.cleared(), tree.part) if isinstance(tree, Choose) else None


# None where the condition is no compare of a column with a column.
def mirror_of(cond):
    if not isinstance(cond, Compare) or cond.right[0] != "column":
        return None
    return Compare(cond.right[1], MIRRORED[cond.sign], ("column", cond.left))


def mirrored(tree, schema):
    cond = mirror_of(tree.cond) if isinstance(tree, Choose) else None
    return None if cond is None else Choose(cond, tree.part)


def into_one(tree, schema):
    if not is_choose_of_product(tree):
        return None
    product = tree.part
    if not all_among(tree.cond.names_in(), names_told(product.one, schema)):
        return None
    return Product(Choose(tree.cond, product.one), product.other)


def into_other(tree, schema):
    if not is_choose_of_product(tree):
        return None
    product = tree.part
    if not all_among(tree.cond.names_in(), names_told(product.other, schema)):
        return None
    return Product(product.one, Choose(tree.cond, product.other))


def out_of_one(tree, schema):
    if not isinstance(tree, Product) or not isinstance(tree.one, Choose):
        return None
    return Choose(tree.one.cond, Product(tree.one.part, tree.other))


def out_of_other(tree, schema):
    if not isinstance(tree, Product) or not isinstance(tree.other, Choose):
        return None
    return Choose(tree.other.cond, Product(tree.one, tree.other.part))


def under_group(tree, schema):
    if not isinstance(tree, Choose) or not isinstance(tree.part, Group):
        return None
    group = tree.part
    if not all_among(tree.cond.names_in(), group.by):
        return None
    return Group(group.by, group.sums, Choose(tree.cond, group.part))


def keep_of_one(tree, schema):
    if not isinstance(tree, Product) or not isinstance(tree.one, Keep):
        return None
    kept = list(tree.one.kept) + names_told(tree.other, schema)
    return Keep(kept, Product(tree.one.part, tree.other))


def keep_of_other(tree, schema):
    if not isinstance(tree, Product) or not isinstance(tree.other, Keep):
        return None
    kept = names_told(tree.one, schema) + list(tree.other.kept)
    return Keep(kept, Product(tree.one, tree.other.part))


def keep_up(tree, schema):
    if not isinstance(tree, Choose) or not isinstance(tree.part, Keep):
        return None
    return Keep(tree.part.kept, Choose(tree.cond, tree.part.part))


def keep_down(tree, schema):
    if not isinstance(tree, Keep) or not isinstance(tree.part, Choose):
        return None
    if not all_among(tree.part.cond.names_in(), tree.kept):
        return None
    return Choose(tree.part.cond, Keep(tree.kept, tree.part.part))


def keep_once(tree, schema):
    if not isinstance(tree, Keep) or not isinstance(tree.part, Keep):
        return None
    return Keep(tree.kept, tree.part.part)


def keep_all(tree, schema):
    if not isinstance(tree, Keep) or has_order_of_its_own(tree.part):
        return None
    return tree.part if list(tree.kept) == names_told(tree.part, schema) else None


def keep_none(tree, schema):
    return None if has_order_of_its_own(tree) else Keep(names_told(tree, schema), tree)


def turned(tree, schema):
    if not isinstance(tree, Product):
        return None
    return Keep(names_told(tree, schema), Product(tree.other, tree.one))


def regrouped_one(tree, schema):
    if not isinstance(tree, Product) or not isinstance(tree.other, Product):
        return None
    return Product(Product(tree.one, tree.other.one), tree.other.other)


def regrouped_other(tree, schema):
    if not isinstance(tree, Product) or not isinstance(tree.one, Product):
        return None
    return Product(tree.one.one, Product(tree.one.other, tree.other))


def sort_gone(tree, schema):
    if isinstance(tree, Product) and isinstance(tree.one, Sort):
        return Product(tree.one.part, tree.other)
    if isinstance(tree, Product) and isinstance(tree.other, Sort):
        return Product(tree.one, tree.other.part)
    if isinstance(tree, (Choose, Keep, Group, Sort)) and isinstance(tree.part, Sort):
        return tree.with_parts([tree.part.part])
    return None


def one_first(tree, schema):
    if not isinstance(tree, First) or not isinstance(tree.part, First):
        return None
    return First(min(tree.many, tree.part.many), tree.part.part)


RULES = {
    "part": parted, "unite": united, "swap": swapped, "clear": with_cleared, "mirror": mirrored, "intoone": into_one,
    "intoother": into_other, "outofone": out_of_one, "outofother": out_of_other, "undergroup": under_group,
    "keepone": keep_of_one, "keepother": keep_of_other, "keepup": keep_up, "keepdown": keep_down, "keeponce": keep_once,
    "keepall": keep_all, "keepnone": keep_none, "turn": turned, "regroupone": regrouped_one,
    "regroupother": regrouped_other, "sortgone": sort_gone, "firsts": one_first,
}


class Rule:
    def __init__(self, called):
        self.called = called

    def rule_word(self):
        return self.called

    def applied(self, tree, schema):
        deed = RULES[self.called]
        return deed(tree, schema)


def rules_told():
    return list(RULES)


def rule_by(word):
    # isinstance first: what is handed in may be no key of a dict
    return Rule(word) if isinstance(word, str) and word in RULES else None
