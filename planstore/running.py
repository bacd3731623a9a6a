"""Runs of plans: the rows that a plan fetches, and how much it touches."""

from planstore.conditions import is_between
from planstore.plain import picked, rows_after
from planstore.plans import Along, Fetching, Matching, Through, looked_at, need_plan
from planstore.trees import Product, names_told


def rows_along(plan, reader):
    order = reader.order_of(plan.table, plan.column)
    keys = [key for value, key in order if is_between(value, plan.low, plan.high)]
    return sorted([reader.row_of(plan.table, key) for key in keys])


# A reading of chooses over a product, its rows made one by one, of the rows of the product's parts.
def rows_by_reading(tree, lists, schema):
    if isinstance(tree, Product):
        return rows_after(tree, lists, schema)
    return rows_after(tree, [rows_by_reading(tree.part, lists, schema)], schema)


def rows_matched(plan, lists, schema):
    names = names_told(plan.one.reading(), schema)
    others = names_told(plan.other.reading(), schema)
    # a pair that is not one of each side is no way to match rows, but its reading has an answer
    if not all([first in names and second in others for first, second in plan.pairs]):
        return rows_by_reading(plan.reading(), lists, schema)
    places = [names.index(first) for first, second in plan.pairs]
    other_places = [others.index(second) for first, second in plan.pairs]
    alike = {}
    for row in lists[1]:
        alike.setdefault(picked(row, other_places), []).append(row)
    matched = []
    for row in lists[0]:
        matched.extend([row + other for other in alike.get(picked(row, places), [])])
    return sorted(matched)


def rows_fetched(plan, rows, schema, reader):
    names = names_told(plan.one.reading(), schema)
    # the order is asked for also where no row needs it, so that a reader refuses whatever the rows
    order = reader.order_of(plan.table, plan.column)
    if plan.probe not in names:
        return rows_by_reading(plan.reading(), [rows, reader.rows_of(plan.table)], schema)
    place = names.index(plan.probe)
    keys = {}
    for value, key in order:
        keys.setdefault(value, []).append(key)
    fetched = []
    for row in rows:
        fetched.extend([row + reader.row_of(plan.table, key) for key in keys.get(row[place], [])])
    return sorted(fetched)


def rows_of_piece(plan, lists, schema, reader):
    if isinstance(plan, Through):
        return sorted(reader.rows_of(plan.table))
    if isinstance(plan, Along):
        return rows_along(plan, reader)
    if isinstance(plan, Matching):
        return rows_matched(plan, lists, schema)
    if isinstance(plan, Fetching):
        return rows_fetched(plan, lists[0], schema, reader)
    return rows_after(plan.reading(), lists, schema)


def run_piece(plan, schema, reader):
    runs = [run_piece(part, schema, reader) for part in plan.parts()]
    rows = rows_of_piece(plan, [run[0] for run in runs], schema, reader)
    counts = [len(run[0]) for run in runs]
    touched = sum([run[1] for run in runs])
    return (rows, touched + looked_at(plan.piece_word(), counts, len(rows)))


def run_plan(plan, schema, reader):
    need_plan(plan, schema)
    return run_piece(plan, schema, reader)
