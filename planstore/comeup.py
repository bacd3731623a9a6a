"""Coming up: the tables as they were kept, seen from a disk's pages and its log."""

from planstore.logrows import kept_many_rows, whole_rows
from planstore.pages import newest


def rows_that_count(disk, schema):
    texts = disk.log_rows()
    return whole_rows(schema, texts)[:kept_many_rows(schema, texts)]


def rows_behind_page(table, page, counted):
    rows = {}
    for row in page[3]:
        rows[row[0]] = row
    for number, stuff in counted:
        # a keep row has a number in the table's place
        if number <= page[1] or stuff[1] != table:
            continue
        if stuff[0] == "set":
            rows[stuff[2][0]] = stuff[2]
        else:
            rows.pop(stuff[2], None)
    return [rows[key] for key in sorted(rows)]


def seen(disk, schema):
    counted = rows_that_count(disk, schema)
    number = 0
    keeps = 0
    if counted:
        number = counted[-1][0]
        keeps = counted[-1][1][1]
    tables = {}
    for table in schema.table_names():
        page = newest(disk, schema, table)
        tables[table] = rows_behind_page(table, page, counted)
        # the log may have been trimmed up to the page
        if page[1] > number:
            number = page[1]
            keeps = page[2]
    return (tables, number, keeps)


def come_up(disk, schema):
    texts = disk.log_rows()
    many = kept_many_rows(schema, texts)
    if len(texts) > many:
        disk.cut_tail(many)
    return seen(disk, schema)
