"""A desk of lines: a store on a disk, asked and answered in texts."""

from planstore.asking import question_text, read_question
from planstore.costs import cost_of
from planstore.disk import Disk
from planstore.errors import NoLine
from planstore.figures import Figures
from planstore.papers import walked
from planstore.plain import plain_answer
from planstore.planner import planned
from planstore.running import run_plan
from planstore.store import Store
from planstore.words import FIGURES, has_only, value_in, value_text

NOW = "now"
NOTHING = "-"
BETWEEN_STEPS = " , "
NO_PATH = "."
MOST_FALL_FIGURES = 4


def need_line(truth):
    if not truth:
        raise NoLine()


def values_text(values):
    return " ".join([value_text(value) for value in values])


def listed(texts, between):
    return between.join(texts) if texts else NOTHING


def rows_text(rows):
    return listed([values_text(row) for row in rows], "; ")


def write_text(table, key, row):
    if row is None:
        return "cut " + table + " " + value_text(key)
    return "set " + table + " " + values_text(row)


def fate_text(part):
    return "none" if part is None else str(part)


def path_text(path):
    return "".join([str(number) for number in path]) if path else NO_PATH


def steps_text(steps):
    return listed([word + " " + path_text(path) for word, path in steps], BETWEEN_STEPS)


def path_in(text):
    if text == NO_PATH:
        return ()
    need_line(text != "" and has_only("01", text))
    return tuple([int(figure) for figure in text])


def step_in(text):
    words = text.split(" ")
    need_line(len(words) == 2 and words[0] != "")
    return (words[0], path_in(words[1]))


def steps_in(text):
    if text == NOTHING:
        return []
    return [step_in(part) for part in text.split(BETWEEN_STEPS)]


def fall_number_in(text):
    need_line(1 <= len(text) <= MOST_FALL_FIGURES and has_only(FIGURES, text))
    need_line(text == "0" or not text.startswith("0"))
    return int(text)


# All behind the first words, so many, and a blank: it may have blanks itself, or no sign.
def question_behind(line, many):
    parts = line.split(" ", many)
    need_line(len(parts) > many)
    return parts[many]


def begin_line(desk, words):
    dealing = desk.store.begin()
    desk.begun[str(dealing.number)] = dealing
    return str(dealing.number)


def keep_line(desk, words):
    desk.store.keep_it(desk.dealing_by(words[1]))
    return "ok"


def break_line(desk, words):
    desk.store.broken(desk.dealing_by(words[1]))
    return "ok"


def cut_line(desk, words):
    desk.dealing_by(words[1]).cut(words[2], desk.values_by(words[2], words[3:])[0])
    return "ok"


def wrote_line(desk, words):
    writes = desk.dealing_by(words[1]).written()
    return listed([write_text(table, key, row) for table, key, row in writes], "; ")


def fate_line(desk, words):
    return " ".join([fate_text(part) for part in desk.dealing_by(words[1]).fate()])


def open_line(desk, words):
    return listed([str(number) for number in desk.store.dealings.open_list()], " ")


def row_line(desk, words):
    row = desk.reader_by(words[1]).row_of(words[2], desk.values_by(words[2], words[3:])[0])
    return "none" if row is None else values_text(row)


def rows_line(desk, words):
    return rows_text(desk.reader_by(words[1]).rows_of(words[2]))


def order_line(desk, words):
    return rows_text(desk.reader_by(words[1]).order_of(words[2], words[3]))


def keeps_line(desk, words):
    return str(desk.store.keeps())


def sweep_line(desk, words):
    desk.store.swept()
    return "ok"


def late_line(desk, words):
    desk.store.late(words[1])
    return "ok"


def trim_line(desk, words):
    return str(desk.store.trim())


def writes_line(desk, words):
    return str(desk.disk.writes())


def log_line(desk, words):
    return listed(desk.disk.log_rows(), "\n")


def fall_line(desk, words):
    after = fall_number_in(words[1])
    desk.disk.fall_at(after, fall_number_in(words[2]))
    return "ok"


def power_line(desk, words):
    desk.new_store()
    return str(desk.store.keeps())


def put_line(desk, line):
    words = line.split(" ")
    need_line(len(words) >= 3)
    desk.dealing_by(words[1]).put(words[2], desk.values_by(words[2], words[3:]))
    return "ok"


def ask_line(desk, line):
    question = question_behind(line, 2)
    reader = desk.reader_by(line.split(" ")[1])
    answer = plain_answer(read_question(question), desk.schema, reader)
    return " ".join(answer[0]) + ": " + rows_text(answer[1])


# The reader, the plan and the paper of a line with WHO and a question.
def planned_for(desk, line):
    question = question_behind(line, 2)
    reader = desk.reader_by(line.split(" ")[1])
    came = planned(read_question(question), desk.schema, reader)
    return (reader, came[0], came[1])


def plan_line(desk, line):
    return planned_for(desk, line)[1].text()


def paper_line(desk, line):
    return steps_text(planned_for(desk, line)[2])


def run_line(desk, line):
    came = planned_for(desk, line)
    run = run_plan(came[1], desk.schema, came[0])
    cost = cost_of(came[1], desk.schema, Figures(desk.schema, came[0]))
    return str(run[1]) + " " + str(cost) + ": " + rows_text(run[0])


def follow_line(desk, line):
    # from the blank behind the first word on, as it may be the one ahead of the first colon: no steps are told then
    parts = line[len("follow"):].split(" : ", 1)
    need_line(len(parts) == 2)
    steps = steps_in(parts[0][1:])
    tree = read_question(parts[1])
    # the columns are refused ahead of the steps
    tree.columns_told(desk.schema)
    return question_text(walked(tree, steps, desk.schema))


def shape_line(desk, line):
    tree = read_question(question_behind(line, 1))
    columns = [name + ":" + kind for name, kind in tree.columns_told(desk.schema)]
    return " ".join(columns) + " | " + question_text(tree)


MANY_WORDS = {
    "begin": 1, "keep": 2, "break": 2, "cut": 4, "wrote": 2, "fate": 2, "open": 1, "row": 4, "rows": 3, "order": 4,
    "keeps": 1, "sweep": 1, "late": 2, "trim": 1, "writes": 1, "log": 1, "fall": 3, "power": 1,
}
DEEDS = {
    "begin": begin_line, "keep": keep_line, "break": break_line, "cut": cut_line, "wrote": wrote_line,
    "fate": fate_line, "open": open_line, "row": row_line, "rows": rows_line, "order": order_line,
    "keeps": keeps_line, "sweep": sweep_line, "late": late_line, "trim": trim_line, "writes": writes_line,
    "log": log_line, "fall": fall_line, "power": power_line,
}
# Lines of as many words as there come.
OF_ANY_LENGTH = {
    "put": put_line, "ask": ask_line, "plan": plan_line, "paper": paper_line, "run": run_line, "follow": follow_line,
    "shape": shape_line,
}


class Desk:
    def __init__(self, schema):
        self.schema = schema
        self.disk = Disk()
        self.store = Store(self.disk, schema)
        # the dealings of the store that stands now, by the texts of their numbers
        self.begun = {}

    def say(self, line):
        need_line(isinstance(line, str))
        words = line.split(" ")
        if words[0] in MANY_WORDS:
            need_line(len(words) == MANY_WORDS[words[0]])
            deed = DEEDS[words[0]]
            return deed(self, words)
        need_line(words[0] in OF_ANY_LENGTH)
        deed = OF_ANY_LENGTH[words[0]]
        return deed(self, line)

    def new_store(self):
        self.disk.power()
        self.store = Store(self.disk, self.schema)
        self.begun = {}

    def dealing_by(self, word):
        need_line(word in self.begun)
        return self.begun[word]

    def reader_by(self, word):
        return self.store.now() if word == NOW else self.dealing_by(word)

    # The kinds of a table's columns, none of what is no table: that is refused where the table is asked for.
    def kinds_of(self, table):
        if table not in self.schema.table_names():
            return []
        return [kind for name, kind in self.schema.columns_of(table)]

    # None for a word that is no value of its column's kind, and for one that has no column.
    def values_by(self, table, words):
        kinds = self.kinds_of(table)
        kinds.extend([None] * (len(words) - len(kinds)))
        return tuple([None if kind is None else value_in(kind, word) for kind, word in zip(kinds, words)])
