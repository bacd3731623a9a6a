"""A desk of lines [141] to [146], what it promises of the whole [1], [6] to [9], and [4], [5] of it."""

import random
import unittest

from helper import Case, Growth, ODD_THINGS, small_schema
from planstore.asking import question_text, read_question
from planstore.costs import cost_of
from planstore.desk import Desk
from planstore.disk import Disk
from planstore.errors import (Alike, BadRow, Beaten, Fell, NoColumn, NoLine, NoOrder, NoPlan, NoQuestion, NoRow, NoStep,
                              NoTable, Over, StoreError, TooMany, WrongKind)
from planstore.figures import Figures
from planstore.papers import walked
from planstore.plain import plain_answer
from planstore.planner import planned
from planstore.plans import Through
from planstore.running import run_plan
from planstore.schema import Schema, schema_in
from planstore.store import Store

ROWS = ["put 1 people 7 rome 30", "put 1 people -2 oslo 30", "put 1 people 5 oslo 12", "put 1 cities rome 9",
        "put 1 cities oslo 3"]
SIX = " | with ".join(["table cities as " + name for name in ("a", "b", "c", "d", "e", "f")])


class DeskCase(Case):
    def setUp(self):
        self.schema = small_schema()
        self.desk = Desk(self.schema)

    def say(self, line, wanted):
        self.same(self.desk.say(line), wanted)

    def says(self, *lines):
        for line, wanted in lines:
            self.say(line, wanted)

    def no(self, error, values, *lines):
        for line in lines:
            self.refused(error, values, self.desk.say, line)

    def fill(self):
        """A dealing that put rows and was kept."""
        self.say("begin", "1")
        for line in ROWS:
            self.say(line, "ok")
        self.say("keep 1", "ok")

    def state(self):
        lines = ["log", "writes", "open"]
        for word in list(self.desk_numbers()):
            lines.extend([f"wrote {word}", f"fate {word}"])
        return [self.desk.say(line) for line in lines]

    def desk_numbers(self):
        for number in range(1, 20):
            try:
                self.desk.say(f"fate {number}")
            except NoLine:
                return
            yield number


class DealingLinesTest(DeskCase):
    def test_begin_and_open(self):
        self.says(("open", "-"), ("begin", "1"), ("begin", "2"), ("begin", "3"), ("open", "1 2 3"), ("break 2", "ok"),
                  ("open", "1 3"), ("keep 1", "ok"), ("begin", "4"), ("open", "3 4"))

    def test_too_many(self):
        for number in range(1, 13):
            self.say("begin", str(number))
        self.no(TooMany, {}, "begin")
        self.says(("open", "1 2 3 4 5 6 7 8 9 10 11 12"), ("break 12", "ok"), ("begin", "13"))
        self.no(NoLine, {}, "fate 14")

    def test_put_cut_and_wrote(self):
        self.says(("begin", "1"), ("wrote 1", "-"), ("put 1 people 7 rome 30", "ok"), ("put 1 cities rome -9", "ok"),
                  ("put 1 people -2 oslo 0", "ok"),
                  ("wrote 1", "set cities rome -9; set people -2 oslo 0; set people 7 rome 30"),
                  ("cut 1 people 7", "ok"), ("cut 1 cities rome", "ok"),
                  ("wrote 1", "cut cities rome; set people -2 oslo 0; cut people 7"))

    def test_rows_that_dont_fit(self):
        self.say("begin", "1")
        self.no(BadRow, {"table": "people"}, "put 1 people", "put 1 people 7", "put 1 people 7 rome",
                "put 1 people 7 rome 30 30", "put 1 people 7 7 30", "put 1 people rome rome 30",
                "put 1 people 07 rome 30",
                "put 1 people 7 rome -0", "put 1 people 7 rome +3", "put 1 people 7 rome ", "put 1 people  rome 30",
                "put 1 people 7  30", "put 1 people 7 rome 30 ", "put 1 people ", "put 1 people 7 Rome 30",
                "put 1 people 7 rome 1000000001", "put 1 people 7 rome 3.0", "put 1 people 7 rome\n 30",
                "put 1 people 7 ninelette 30", "put 1 people None rome 30")
        self.say("put 1 people -1000000000 eightlet 1000000000", "ok")
        self.no(NoTable, {"table": "towns"}, "put 1 towns", "put 1 towns 7", "put 1 towns 1 2 3 4 5 6", "cut 1 towns 7")
        self.no(NoTable, {"table": ""}, "put 1 ", "put 1  7", "cut 1  7", "cut 1  ")

    def test_cuts_of_rows_that_are_not_there(self):
        self.says(("begin", "1"), ("put 1 people 7 rome 30", "ok"), ("put 1 cities oslo 1", "ok"))
        self.no(NoRow, {"table": "people", "key": 8}, "cut 1 people 8")
        self.no(NoRow, {"table": "people", "key": None}, "cut 1 people 07", "cut 1 people rome", "cut 1 people ",
                "cut 1 people -0")
        self.no(NoRow, {"table": "cities", "key": "rome"}, "cut 1 cities rome")
        self.no(NoRow, {"table": "cities", "key": None}, "cut 1 cities 7", "cut 1 cities ", "cut 1 cities Oslo")
        self.say("wrote 1", "set cities oslo 1; set people 7 rome 30")

    def test_fates(self):
        self.says(("begin", "1"), ("begin", "2"), ("begin", "3"), ("fate 1", "open 0"),
                  ("put 1 people 7 rome 30", "ok"), ("keep 1", "ok"), ("fate 1", "kept 0 1"), ("keep 2", "ok"),
                  ("fate 2", "kept 0 none"), ("break 3", "ok"), ("fate 3", "broken 0"), ("begin", "4"), ("fate 4", "open 1"), ("wrote 1", "set people 7 rome 30"))

    def test_dealings_that_have_ended(self):
        self.says(("begin", "1"), ("begin", "2"), ("keep 1", "ok"), ("break 2", "ok"))
        for number in (1, 2):
            self.no(Over, {"number": number}, f"keep {number}", f"break {number}", f"put {number} people 7 rome 30",
                    f"put {number} towns", f"cut {number} people 7", f"cut {number} towns 7", f"row {number} people 7",
                    f"rows {number} people", f"rows {number} towns", f"order {number} people x",
                    f"ask {number} table people", f"plan {number} table people", f"paper {number} table people",
                    f"run {number} table people")
            self.say(f"wrote {number}", "-")

    def test_beaten(self):
        self.says(("begin", "1"), ("begin", "2"), ("put 1 people 7 rome 30", "ok"), ("put 1 cities rome 1", "ok"),
                  ("put 2 people 7 oslo 1", "ok"), ("put 2 cities rome 2", "ok"), ("keep 2", "ok"))
        self.no(Beaten, {"table": "cities", "key": "rome", "by": 2}, "keep 1")
        self.says(("fate 1", "broken 0"), ("open", "-"), ("rows now people", "7 oslo 1"), ("keeps", "1"))


class ReadLinesTest(DeskCase):
    def test_rows(self):
        self.says(("rows now people", "-"), ("rows now cities", "-"))
        self.fill()
        self.says(("rows now people", "-2 oslo 30; 5 oslo 12; 7 rome 30"), ("rows now cities", "oslo 3; rome 9"),
                  ("row now people 7", "7 rome 30"), ("row now people -2", "-2 oslo 30"), ("row now people 8", "none"),
                  ("row now cities rome", "rome 9"))

    def test_keys_that_are_none(self):
        self.fill()
        for word in ("07", "", "rome", "+7", "7.0", "now", "None"):
            self.say("row now people " + word, "none")
            self.say("row now cities 7" + word, "none")

    def test_orders(self):
        self.say("order now people city", "-")
        self.fill()
        self.says(("order now people id", "-2 -2; 5 5; 7 7"), ("order now people city", "oslo -2; oslo 5; rome 7"),
                  ("order now people age", "12 5; 30 -2; 30 7"), ("order now cities name", "oslo oslo; rome rome"))
        self.no(NoOrder, {"table": "cities", "column": "size"}, "order now cities size")
        self.no(NoOrder, {"table": "people", "column": ""}, "order now people ")
        self.no(NoOrder, {"table": "people", "column": "people.id"}, "order now people people.id")

    def test_what_is_no_table(self):
        for word in ("towns", "", "People", "now", "1"):
            self.no(NoTable, {"table": word}, f"rows now {word}", f"row now {word} 7", f"order now {word} x",
                    f"order now {word} ", f"late {word}", f"row now {word} ")

    def test_a_dealing_reads_the_make_of_its_begin_and_its_own_writes(self):
        self.fill()
        self.says(("begin", "2"), ("begin", "3"), ("put 2 people 1 bergen 1", "ok"), ("cut 2 people 5", "ok"),
                  ("rows 2 people", "-2 oslo 30; 1 bergen 1; 7 rome 30"), ("row 2 people 5", "none"),
                  ("order 2 people age", "1 1; 30 -2; 30 7"), ("rows 3 people", "-2 oslo 30; 5 oslo 12; 7 rome 30"),
                  ("keep 2", "ok"), ("rows 3 people", "-2 oslo 30; 5 oslo 12; 7 rome 30"), ("row 3 people 5",
                                                                                            "5 oslo 12"),
                  ("rows now people", "-2 oslo 30; 1 bergen 1; 7 rome 30"), ("sweep", "ok"),
                  ("rows 3 people", "-2 oslo 30; 5 oslo 12; 7 rome 30"))


class StoreLinesTest(DeskCase):
    def test_keeps_log_and_writes(self):
        self.says(("keeps", "0"), ("log", "-"), ("writes", "0"))
        self.fill()
        log = ("1 set cities oslo 3;\n2 set cities rome 9;\n3 set people -2 oslo 30;\n4 set people 5 oslo 12;\n5 set people "
               "7 rome 30;\n6 keep 1;")
        self.says(("keeps", "1"), ("log", log), ("writes", "6"), ("begin", "2"), ("keep 2", "ok"), ("keeps", "1"),
                  ("writes", "6"), ("begin", "3"), ("cut 3 people 7", "ok"), ("keep 3", "ok"), ("keeps", "2"),
                  ("log", log + "\n7 cut people 7;\n8 keep 2;"), ("writes", "8"))

    def test_late_and_trim(self):
        self.fill()
        self.says(("trim", "0"), ("late people", "ok"), ("trim", "0"), ("late cities", "ok"), ("writes", "8"),
                  ("trim", "6"), ("log", "-"), ("writes", "9"), ("trim", "0"), ("writes", "9"),
                  ("rows now people", "-2 oslo 30; 5 oslo 12; 7 rome 30"), ("power", "1"),
                  ("rows now people", "-2 oslo 30; 5 oslo 12; 7 rome 30"), ("rows now cities", "oslo 3; rome 9"),
                  ("begin", "1"), ("cut 1 people 7", "ok"), ("keep 1", "ok"), ("log", "7 cut people 7;\n8 keep 2;"))

    def test_sweep(self):
        self.fill()
        self.says(("begin", "2"), ("sweep", "ok"), ("row 2 people 7", "7 rome 30"), ("writes", "6"))


class QuestionLinesTest(DeskCase):
    def setUp(self):
        super().setUp()
        self.fill()
        self.store = Store(Disk(), self.schema)
        dealing = self.store.begin()
        for row in [(7, "rome", 30), (-2, "oslo", 30), (5, "oslo", 12)]:
            dealing.put("people", row)
        for row in [("rome", 9), ("oslo", 3)]:
            dealing.put("cities", row)
        self.store.keep_it(dealing)

    def planned(self, question):
        return planned(read_question(question), self.schema, self.store.now())

    def test_ask(self):
        self.says(("ask now table people", "people.id people.city people.age: -2 oslo 30; 5 oslo 12; 7 rome 30"),
                  ("ask now table people as p | choose p.id > 99", "p.id p.city p.age: -"),
                  ("ask now table people as p | keep p.age", "p.age: 12; 30; 30"),
                  ("ask now table people as p | group p.city : count many , sum p.id all | sort many down",
                   "p.city many all: oslo 2 3; rome 1 7"),
                  ("ask now ( table people as p | first 1 ) | choose p.city = 'oslo'", "p.id p.city p.age: -2 oslo 30"))

    def test_ask_of_a_dealing(self):
        self.says(("begin", "2"), ("put 2 cities bergen 1", "ok"), ("ask 2 table cities as c | keep c.name",
                                                                  "c.name: bergen; oslo; rome"),
                  ("ask now table cities as c | keep c.name", "c.name: oslo; rome"))

    def test_plan_paper_and_run(self):
        self.says(("plan now table people", "through people as people"), ("paper now table people", "-"),
                  ("run now table people", "3 3: -2 oslo 30; 5 oslo 12; 7 rome 30"),
                  ("plan now table people as p | choose p.city = 'oslo'",
                   "along people as p by city from 'oslo' to 'oslo' | narrow p.id p.city p.age"),
                  ("paper now table people as p | choose p.city = 'oslo'", "keepnone ."),
                  ("run now table people as p | choose p.city = 'oslo'", "5 5: -2 oslo 30; 5 oslo 12"),
                  ("run now table people as p | choose p.age > 99", "6 6: -"),
                  ("run now table people as p | choose p.age > 29 | first 0", "8 8: -"))

    def test_papers_with_paths(self):
        question = "( table people as p | choose p.age > 1 and p.id < 9 ) | join ( table cities as c | keep c.name ) on " \
                   "p.city = c.name"
        steps = self.planned(question)[1]
        self.assertGreater(len(steps), 4)
        text = " , ".join([word + " " + ("".join(map(str, path)) or ".") for word, path in steps])
        self.say("paper now " + question, text)
        reading = self.planned(question)[0].reading()
        self.say("follow " + text + " : " + question, question_text(reading))

    def test_run_tells_what_it_touched_and_its_cost(self):
        question = "table people as p | join table cities as c on p.city = c.name | choose c.size > 3"
        plan = self.planned(question)[0]
        rows, touched = run_plan(plan, self.schema, self.store.now())
        cost = cost_of(plan, self.schema, Figures(self.schema, self.store.now()))
        self.say("run now " + question, f"{touched} {cost}: 7 rome 30 rome 9")
        self.assertLess(touched, cost)

    def test_follow(self):
        tree = "table people as p | choose p.age > 1 and p.id < 9"
        self.says(("follow - : " + tree, tree),
                  ("follow part . : " + tree, "table people as p | choose p.id < 9 | choose p.age > 1"),
                  ("follow part . , swap . : " + tree, "table people as p | choose p.age > 1 | choose p.id < 9"),
                  ("follow keepnone 0 , keepnone 00 : " + tree, "table people as p | keep p.id p.city p.age | keep p.id "
                   "p.city p.age | choose p.age > 1 and p.id < 9"),
                  ("follow keepnone 1 : table people | with table cities",
                   "table people | with ( table cities | keep cities.name cities.size )"),
                  ("follow keepnone 10 : table people | with ( table cities | first 2 )",
                   "table people | with ( table cities | keep cities.name cities.size | first 2 )"),
                  ("follow - : table people | group : count many", "table people | group : count many"))

    def test_steps_that_cant_be_done(self):
        tree = "table people as p | choose p.age > 1 and p.id < 9"
        for steps, place in (("nosuch .", 0), ("part 0", 0), ("part . , part .", 1), ("part 1", 0), ("- .", 0),
                             ("part . , swap . , keepall 01", 2), ("PART .", 0), (", .", 0), ("part . , , .", 1),
                             ("a:b .", 0), ("part 0000000000000000000000", 0), ("part:x .", 0), (". .", 0)):
            self.no(NoStep, {"place": place}, f"follow {steps} : {tree}")

    def test_shape(self):
        self.says(("shape table people", "people.id:number people.city:word people.age:number | table people"),
                  ("shape table people as people", "people.id:number people.city:word people.age:number | table people"),
                  ("shape ( table people as p ) | group p.city : count many | choose ( many > 1 )",
                   "p.city:word many:number | table people as p | group p.city : count many | choose many > 1"))

    def test_questions_that_are_none(self):
        for start in ("ask now", "plan now", "paper now", "run now", "shape", "follow - :", "follow part . :"):
            self.no(NoQuestion, {"place": 0}, start + " ", start + "  ", start + " nosuch", start + "  table people",
                    start + " " + "x" * 2001)
            self.no(NoQuestion, {"place": 1}, start + " table", start + " table ", start + " table Nosuch",
                    start + " ( )", start + " table  people")
            self.no(NoQuestion, {"place": 2}, start + " table people ", start + " table people x")
            self.no(NoQuestion, {"place": 1}, start + " table people\n x")
            self.no(NoQuestion, {"place": 5}, start + " table people | group :")

    def test_columns_that_are_none(self):
        for start in ("ask now ", "plan now ", "paper now ", "run now ", "shape ", "follow - : ", "follow nosuch . : "):
            self.no(NoTable, {"table": "towns"}, start + "table towns")
            self.no(NoColumn, {"name": "x"}, start + "table people | keep x")
            self.no(Alike, {"name": "people.id"}, start + "table people | with table people")
            self.no(WrongKind, {"name": "people.id"}, start + "table people | choose people.id = 'a'")

    def test_no_plan(self):
        self.no(NoPlan, {}, "plan now " + SIX, "paper now " + SIX, "run now " + SIX)
        self.say("ask now " + SIX + " | group : count many", "many: 64")
        self.say("run now " + SIX.rsplit(" | ", 1)[0] + " | group : count many | keep many", "123 123: 32")


class FallLinesTest(DeskCase):
    def test_a_fall_at_each_write(self):
        self.fill()
        rows = ["7 cut people 7;", "8 set people 8 oslo 1;", "9 keep 2;"]
        for after in range(4):
            for signs in (0, 1, 5, len(rows[min(after, 2)]), 99):
                self.desk = Desk(self.schema)
                self.fill()
                self.says(("begin", "2"), ("put 2 people 8 oslo 1", "ok"), ("cut 2 people 7", "ok"),
                          (f"fall {after} {signs}", "ok"))
                whole = after == 3 or (after == 2 and signs >= len(rows[2]))
                if after == 3:
                    self.says(("keep 2", "ok"), ("writes", "9"))
                else:
                    self.no(Fell, {}, "keep 2")
                    self.say("writes", str(6 + after + 1))
                    self.no(Fell, {}, "begin", "keep 2", "break 2", "keeps", "sweep", "late people", "late towns", "trim",
                            "rows now people", "ask now table people", "ask now x", "plan now " + SIX)
                    self.say("rows 2 people", "-2 oslo 30; 5 oslo 12; 8 oslo 1")
                self.say("power", "2" if whole else "1")
                wanted = "-2 oslo 30; 5 oslo 12; " + ("8 oslo 1" if whole else "7 rome 30")
                self.says(("rows now people", wanted), ("power", "2" if whole else "1"), ("rows now people", wanted))
                self.no(NoLine, {}, "fate 1", "fate 2", "rows 2 people", "keep 2")

    def test_what_is_told_of_a_fallen_store(self):
        self.fill()
        self.says(("begin", "2"), ("begin", "3"), ("put 3 people 1 oslo 1", "ok"), ("fall 0 3", "ok"))
        self.no(Fell, {}, "late people")
        self.says(("open", "2 3"), ("writes", "7"), ("fate 2", "open 1"), ("wrote 3", "set people 1 oslo 1"),
                  ("put 2 people 2 oslo 2", "ok"), ("cut 2 people 7", "ok"), ("rows 2 people", "-2 oslo 30; 2 oslo 2; 5 "
                                                                            "oslo 12"),
                  ("ask 2 table people as p | keep p.id", "p.id: -2; 2; 5"), ("run 2 table people as p | keep p.id",
                                                                              "6 6: -2; 2; 5"),
                  ("shape table cities", "cities.name:word cities.size:number | table cities"),
                  ("follow - : table cities", "table cities"), ("fall 1 1", "ok"))
        self.assertTrue(self.desk.say("log").endswith("6 keep 1;"))
        self.no(Fell, {}, "begin", "keep 2", "break 2", "rows now people", "row now people 7", "order now people id")
        self.no(NoLine, {}, "keep 4", "rows 4 people", "ask now", "fate 9")
        self.says(("power", "1"), ("open", "-"), ("begin", "1"), ("open", "1"))

    def test_the_store_ahead_of_the_question(self):
        self.fill()
        self.say("fall 0 0", "ok")
        self.no(Fell, {}, "late people", "ask now nosuch", "plan now table towns", "paper now ", "run now table people | x",
                "row now towns x", "order now towns x", "rows now towns")

    def test_a_fall_is_told_once_more_and_power_takes_it_back(self):
        self.says(("fall 0 0", "ok"), ("fall 1 0", "ok"), ("begin", "1"), ("put 1 people 7 rome 30", "ok"))
        self.no(Fell, {}, "keep 1")
        self.says(("writes", "2"), ("log", "1 set people 7 rome 30;"), ("power", "0"), ("log", "-"), ("writes", "3"),
                  ("fall 0 0", "ok"), ("power", "0"), ("begin", "1"), ("put 1 people 7 rome 30", "ok"), ("keep 1", "ok"),
                  ("keeps", "1"), ("writes", "5"))

    def test_trims_and_pages_that_fall(self):
        for signs in (0, 1, 9, 9999):
            self.desk = Desk(self.schema)
            self.fill()
            self.says(("late people", "ok"), (f"fall 0 {signs}", "ok"))
            self.no(Fell, {}, "late cities")
            self.says(("power", "1"), ("rows now cities", "oslo 3; rome 9"), ("late cities", "ok"),
                      (f"fall 0 {signs}", "ok"))
            self.no(Fell, {}, "trim")
            self.says(("power", "1"), ("rows now cities", "oslo 3; rome 9"), ("trim", "0" if signs else "6"),
                      ("rows now people", "-2 oslo 30; 5 oslo 12; 7 rome 30"))

    def test_power_ends_the_dealings_that_were_open(self):
        self.fill()
        self.says(("begin", "2"), ("put 2 people 1 oslo 1", "ok"), ("power", "1"), ("open", "-"))
        self.no(NoLine, {}, "keep 2", "wrote 2", "wrote 1", "ask 2 table people", "put 2 people 1 oslo 1")
        self.says(("rows now people", "-2 oslo 30; 5 oslo 12; 7 rome 30"), ("begin", "1"), ("fate 1", "open 0"))


class NoLineTest(DeskCase):
    LINES = {"begin": 1, "keep 1": 2, "break 1": 2, "cut 1 people 7": 4, "wrote 1": 2, "fate 1": 2, "open": 1,
             "row 1 people 7": 4, "rows 1 people": 3, "order 1 people id": 4, "keeps": 1, "sweep": 1, "late people": 2,
             "trim": 1, "writes": 1, "log": 1, "fall 9 9": 3, "power": 1}

    def setUp(self):
        super().setUp()
        self.says(("begin", "1"), ("put 1 people 7 rome 30", "ok"))

    def none(self, *lines):
        for line in lines:
            before = self.state()
            self.refused(NoLine, {}, self.desk.say, line)
            self.same(self.state(), before)

    def test_things_that_are_no_texts(self):
        for thing in ODD_THINGS + [["begin"], ("begin",), b"begin", ["open"], {"begin": 1}, 1, Desk, None, Through]:
            self.none(thing)

    def test_first_words_that_are_none(self):
        self.none("", " ", "  ", "Begin", "BEGIN", "begins", "begi", " begin", "begin\n", "\nbegin", "nosuch", "nosuch 1",
                  "-", "1", "now", "table people", "set 1 people 7", "ok", "say", "begin,", "keep1", ": begin", "with")

    def test_a_word_more_or_less(self):
        for line, many in self.LINES.items():
            words = line.split(" ")
            self.none(line + " ", line + " x", line + "  ", " " + line)
            if many > 1:
                self.none(" ".join(words[:-1]), words[0], words[0] + "  " + " ".join(words[1:]))
        self.none("put", "put 1", "put ", "cut 1 people", "row now people", "rows now", "order now people")

    def test_numbers_of_dealings_that_are_none(self):
        for word in ("0", "2", "01", "-1", "+1", "1.0", "", "one", "NOW", "Now", "1\n", "401", "9" * 50, "x"):
            self.none(f"keep {word}", f"break {word}", f"put {word} people 7 rome 30", f"cut {word} people 7",
                      f"wrote {word}", f"fate {word}", f"row {word} people 7", f"rows {word} people",
                      f"order {word} people id", f"ask {word} table people", f"plan {word} table people",
                      f"paper {word} table people", f"run {word} table people", f"ask {word} ", f"put {word} towns")
        self.none("keep now", "break now", "put now people 7 rome 30", "cut now people 7", "wrote now", "fate now")

    def test_signs_that_only_look_like_figures(self):
        arabic = chr(0x661)
        self.none(f"keep {arabic}", f"fall {arabic} 0", f"fall 0 {arabic}", f"follow part {arabic} : table people")

    def test_falls(self):
        for word in ("00", "01", "-1", "+1", "", "12345", "1.0", "x", "1_0", "0x1", "1e2", "09", "1\n"):
            self.none(f"fall {word} 0", f"fall 0 {word}", f"fall {word} {word}")
        self.none("fall", "fall 1", "fall 1 1 1", "fall 1  1")
        for word in ("0", "1", "9999", "10", "999"):
            self.says((f"fall {word} 0", "ok"), (f"fall 9999 {word}", "ok"))

    def test_no_question_behind(self):
        self.none("ask", "ask now", "ask 1", "plan", "plan now", "paper", "paper now", "run", "run now", "run 1", "shape",
                  "ask ", "ask  table people", "follow", "follow ", "follow -", "follow part .")

    def test_steps_that_are_none_of_this_form(self):
        question = "table people as p | choose p.age > 1 and p.id < 9"
        for steps in ("", "part", "part ", "part . , swap ", ".", "part .  , swap .", "part . ,swap .", "part ., swap .", "part . , ", " , part .",
                      "part . , swap", "part . swap .", "part 2", "part 02", "part -1", "part 0 0", "part  .", " part .",
                      "part . ", "part ..", "part .0", "part 0.", "- , part .", "part . , -", "- -", "part 0,0", "--",
                      "part x", ",", "part . , , swap .", " .", "part (0,)"):
            self.none(f"follow {steps} : {question}")

    def test_no_colon_between_two_blanks(self):
        for line in ("follow part . table people", "follow part .: table people", "follow part . :table people",
                     "follow part . :", "follow : table people", "follow : part . : table people", "follow -: table people",
                     "follow  : table people", "follow : ", "follow :", "follow : : "):
            self.none(line)

    def test_ahead_of_all_else(self):
        self.say("fall 0 0", "ok")
        self.no(Fell, {}, "keep 1")
        self.none("begin ", "keep 2", "keeps 1", "late", "trim x", "ask now", "rows now", "row now people", "keep",
                  "follow nosuch 2 : table people")

    def test_refused_lines_change_nothing(self):
        self.fill_more()
        for line in ("put 1 people 7", "put 1 towns 7", "cut 1 people 99", "cut 1 towns 7", "row now towns 7",
                     "order now cities size", "late towns", "ask now x", "plan now " + SIX, "run now table towns",
                     "follow nosuch . : table people", "shape x", "keep 2", "break 2", "put 2 people 7 rome 30"):
            before = self.state()
            with self.assertRaises(StoreError):
                self.desk.say(line)
            self.same(self.state(), before)

    def fill_more(self):
        self.says(("begin", "2"), ("put 2 cities rome 9", "ok"), ("keep 2", "ok"), ("late cities", "ok"))


class SeveralDesksTest(DeskCase):
    def test_two_desks_share_nothing(self):
        other = Desk(self.schema)
        self.fill()
        self.same([other.say(line) for line in ("open", "rows now people", "log", "writes", "keeps", "begin")],
                  ["-", "-", "-", "0", "0", "1"])
        self.say("fall 0 0", "ok")
        other.say("put 1 people 1 a 1")
        self.same([other.say("keep 1"), other.say("rows now people")], ["ok", "1 a 1"])

    def test_a_schema_of_other_tables(self):
        self.desk = Desk(schema_in("now now:word | open open:number none:word"))
        self.says(("begin", "1"), ("put 1 now now", "ok"), ("put 1 open 1 none", "ok"), ("keep 1", "ok"),
                  ("rows now now", "now"), ("row now now now", "now"), ("row now open 1", "1 none"), ("rows now open",
                                                                                                     "1 none"),
                  ("ask now table now", "now.now: now"), ("order now now now", "now now"),
                  ("shape table now", "now.now:word | table now"))

    def test_a_schema_that_is_changed_behind(self):
        tables = [("a", [("x", "number")])]
        desk = Desk(Schema(tables))
        tables.clear()
        self.same([desk.say(line) for line in ("begin", "put 1 a 3", "keep 1", "rows now a")], ["1", "ok", "ok", "3"])


class ByChanceTest(DeskCase):
    """The desk beside a store and a disk of their own, asked for the same by their methods."""

    def start(self, seed):
        self.chance = random.Random(seed)
        self.desk = Desk(self.schema)
        self.disk = Disk()
        self.store = Store(self.disk, self.schema)
        self.dealings = {}

    def row_text(self, row):
        return " ".join(map(str, row))

    def rows_text(self, rows):
        return "; ".join(map(self.row_text, rows)) or "-"

    def begin(self):
        dealing = self.store.begin()
        self.dealings[dealing.number] = dealing
        return str(dealing.number)

    def put(self, number):
        table = self.chance.choice(["people", "cities", "towns"])
        words = {"people": [self.chance.randrange(6), self.chance.choice("ab"), self.chance.randrange(3)],
                 "cities": [self.chance.choice("abc"), self.chance.randrange(3)], "towns": [1]}[table]
        line = f"put {number} {table} {self.row_text(words)}"
        return line, lambda: self.dealings[number].put(table, tuple(words)) or "ok"

    def cut(self, number):
        table, key = self.chance.choice([("people", self.chance.randrange(6)), ("cities", self.chance.choice("abc"))])
        return f"cut {number} {table} {key}", lambda: self.dealings[number].cut(table, key) or "ok"

    def wrote(self, number):
        writes = [f"cut {table} {key}" if row is None else f"set {table} {self.row_text(row)}"
                  for table, key, row in self.dealings[number].written()]
        return "; ".join(writes) or "-"

    def power(self):
        self.disk.power()
        self.store = Store(self.disk, self.schema)
        self.dealings = {}
        return str(self.store.keeps())

    def question_line(self, who, read):
        tree = Growth(self.chance, 3).tree(4)
        text = question_text(tree)
        word = self.chance.choice(["ask", "plan", "paper", "run", "follow"])
        if word == "ask":
            def asked():
                names, rows = plain_answer(tree, self.schema, read())
                return " ".join(names) + ": " + self.rows_text(rows)
            return f"ask {who} {text}", asked
        if word == "follow":
            steps = [("keepnone", ()), ("swap", ()), ("part", (0,))][:self.chance.randrange(3)]
            told = " , ".join(f"{name} {''.join(map(str, path)) or '.'}" for name, path in steps) or "-"
            return f"follow {told} : {text}", lambda: question_text(walked(tree, steps, self.schema))

        def planned_line():
            reader = read()
            plan, steps = planned(tree, self.schema, reader)
            if word == "plan":
                return plan.text()
            if word == "paper":
                return " , ".join(f"{name} {''.join(map(str, path)) or '.'}" for name, path in steps) or "-"
            rows, touched = run_plan(plan, self.schema, reader)
            cost = cost_of(plan, self.schema, Figures(self.schema, reader))
            return f"{touched} {cost}: {self.rows_text(rows)}"
        return f"{word} {who} {text}", planned_line

    def line(self):
        """A line, and what the store and its like answer."""
        number = self.chance.choice(list(self.dealings)) if self.dealings else None
        kind = self.chance.choice(["begin", "begin", "plain", "plain", "dealing", "dealing", "dealing", "dealing",
                                   "dealing", "read", "read", "question", "fall"])
        if kind == "begin" or (kind == "dealing" and number is None):
            return "begin", self.begin
        if kind == "dealing":
            return self.dealing_line(number)
        who = self.chance.choice(["now", number]) if number else "now"

        def read():
            return self.store.now() if who == "now" else self.dealings[who]
        if kind == "question":
            return self.question_line(who, read)
        if kind == "read":
            table, column = self.chance.choice([("people", "city"), ("cities", "size"), ("cities", "name")])
            return self.chance.choice([
                (f"rows {who} {table}", lambda: self.rows_text(read().rows_of(table))),
                (f"order {who} {table} {column}", lambda: self.rows_text(read().order_of(table, column))),
                (f"row {who} people 3", lambda: self.row_text(read().row_of("people", 3) or ("none",)))])
        if kind == "fall":
            after, signs = self.chance.randrange(6), self.chance.randrange(30)
            return self.chance.choice([("power", self.power), (
                f"fall {after} {signs}", lambda: self.disk.fall_at(after, signs) or "ok")])
        table = self.chance.choice(["people", "cities"])
        return self.chance.choice([
            ("keeps", lambda: str(self.store.keeps())), ("sweep", lambda: self.store.swept() or "ok"),
            (f"late {table}", lambda: self.store.late(table) or "ok"), ("trim", lambda: str(self.store.trim())),
            ("writes", lambda: str(self.disk.writes())), ("log", lambda: "\n".join(self.disk.log_rows()) or "-")])

    def dealing_line(self, number):
        kind = self.chance.choice(["put", "put", "put", "cut", "wrote", "fate", "keep", "break"])
        if kind == "put":
            return self.put(number)
        if kind == "cut":
            return self.cut(number)
        dealing = self.dealings[number]
        return {"wrote": (f"wrote {number}", lambda: self.wrote(number)),
                "fate": (f"fate {number}", lambda: " ".join(["none" if part is None else str(part)
                                                             for part in dealing.fate()])),
                "keep": (f"keep {number}", lambda: self.store.keep_it(dealing) or "ok"),
                "break": (f"break {number}", lambda: self.store.broken(dealing) or "ok")}[kind]

    def told(self, call, *args):
        try:
            return call(*args)
        except StoreError as refused:
            return (type(refused), vars(refused))

    def test_lines(self):
        refusals = set()
        for seed in range(25):
            self.start(seed)
            for turn in range(120):
                line, call = self.line()
                wanted = self.told(call)
                self.same(self.told(self.desk.say, line), wanted)
                if isinstance(wanted, tuple):
                    refusals.add(wanted[0])
            self.same(self.told(self.desk.say, "power"), self.power())
            self.same(self.desk.say("rows now people"), self.rows_text(self.store.now().rows_of("people")))
        self.assertGreaterEqual(refusals, {Fell, Over, NoTable, NoRow, Beaten, NoOrder, NoStep})


if __name__ == "__main__":
    unittest.main()
