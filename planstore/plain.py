"""The plain answer of a question: its rows made node by node, and put in order at each."""

from planstore.trees import Choose, First, Group, Keep, Product, Scan, names_told


def picked(row, places):
    return tuple([row[place] for place in places])


def rows_chosen(cond, names, rows):
    return sorted([row for row in rows if cond.holds(dict(zip(names, row)))])


def rows_kept(kept, names, rows):
    places = [names.index(name) for name in kept]
    return sorted([picked(row, places) for row in rows])


def rows_paired(rows, others):
    pairs = []
    for row in rows:
        pairs.extend([row + other for other in others])
    return sorted(pairs)


def sum_of(word, values):
    if word == "sum":
        return sum(values)
    return min(values) if word == "least" else max(values)


def sums_of(sums, names, rows):
    values = []
    for word, name, new in sums:
        if word == "count":
            values.append(len(rows))
        else:
            place = names.index(name)
            values.append(sum_of(word, [row[place] for row in rows]))
    return tuple(values)


def rows_grouped(by, sums, names, rows):
    places = [names.index(name) for name in by]
    alike = {}
    for row in rows:
        alike.setdefault(picked(row, places), []).append(row)
    return sorted([key + sums_of(sums, names, alike[key]) for key in alike])


def by_place(rows, place, down):
    if down:
        # rows that are alike here keep their order, also in reverse
        return sorted(rows, key=lambda row: row[place], reverse=True)
    return sorted(rows, key=lambda row: row[place])


def by_sort(rows, names, by):
    ordered = sorted(rows)
    # the last key first, so that each key ahead of it outweighs it
    for name, down in reversed(by):
        ordered = by_place(ordered, names.index(name), down)
    return ordered


def rows_after(tree, lists, schema):
    if isinstance(tree, Product):
        return rows_paired(lists[0], lists[1])
    rows = lists[0]
    if isinstance(tree, First):
        return rows[:tree.many]
    names = names_told(tree.part, schema)
    if isinstance(tree, Choose):
        return rows_chosen(tree.cond, names, rows)
    if isinstance(tree, Keep):
        return rows_kept(tree.kept, names, rows)
    if isinstance(tree, Group):
        return rows_grouped(tree.by, tree.sums, names, rows)
    return by_sort(rows, names, tree.by)


def rows_read(tree, schema, reader):
    if isinstance(tree, Scan):
        return sorted(reader.rows_of(tree.table))
    return rows_after(tree, [rows_read(part, schema, reader) for part in tree.parts()], schema)


def plain_answer(tree, schema, reader):
    # asked ahead of all reading, for what the columns are refused for
    names = names_told(tree, schema)
    return (names, rows_read(tree, schema, reader))
