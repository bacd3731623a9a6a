"""Pages: each tells a table as it was kept once, and is written late into one of its two slots."""

from planstore.logrows import values_in, whole_rows
from planstore.words import value_in, value_text

PAGE_WORD = "page"
BETWEEN_PARTS = " | "
MOST_ROWS = 60


def page_text(table, last, many, rows):
    parts = [" ".join([PAGE_WORD, table, value_text(last), value_text(many)])]
    for row in rows:
        parts.append(" ".join([value_text(value) for value in row]))
    return BETWEEN_PARTS.join(parts) + ";"


# Both numbers of a page go up to 10 ** 9, as a number among values does.
def number_from_nought(text):
    number = value_in("number", text)
    return number if number is not None and number >= 0 else None


def head_in(schema, words):
    if len(words) != 4 or words[0] != PAGE_WORD or words[1] not in schema.table_names():
        return None
    last = number_from_nought(words[2])
    many = number_from_nought(words[3])
    return None if last is None or many is None else (words[1], last, many)


def rows_in(columns, parts):
    rows = [values_in(columns, part.split(" ")) for part in parts]
    if len(rows) > MOST_ROWS or None in rows:
        return None
    keys = [row[0] for row in rows]
    return rows if keys == sorted(set(keys)) else None


def page_in(schema, text):
    if not isinstance(text, str) or not text.endswith(";"):
        return None
    parts = text[:-1].split(BETWEEN_PARTS)
    head = head_in(schema, parts[0].split(" "))
    if head is None:
        return None
    rows = rows_in(schema.columns_of(head[0]), parts[1:])
    return None if rows is None else (head[0], head[1], head[2], rows)


def slots_of(schema, table):
    # asked for its refusal: what is no table has no place among them
    schema.columns_of(table)
    place = schema.table_names().index(table)
    return (2 * place, 2 * place + 1)


def newest(disk, schema, table):
    best = (None, 0, 0, [])
    for slot in slots_of(schema, table):
        said = page_in(schema, disk.page(slot))
        if said is None or said[0] != table:
            continue
        if best[0] is None or said[1] > best[1]:
            best = (slot, said[1], said[2], said[3])
    return best


def late_page(disk, schema, table, last, many, rows):
    slots = slots_of(schema, table)
    # the newest page stays as it is, so a fall at this write loses nothing
    slot = slots[1] if newest(disk, schema, table)[0] == slots[0] else slots[0]
    disk.put_page(slot, page_text(table, last, many, rows))


def trim_log(disk, schema):
    least = min([newest(disk, schema, table)[1] for table in schema.table_names()])
    many = len([said for said in whole_rows(schema, disk.log_rows()) if said[0] <= least])
    if many > 0:
        disk.cut_head(many)
    return many
