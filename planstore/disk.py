"""A disk: a log of rows and eight pages, that falls at a write told ahead."""

from planstore.errors import Fell

SLOTS = 8


class Disk:
    def __init__(self):
        self.log = []
        self.pages = ["" for slot in range(SLOTS)]
        self.writes_come = 0
        self.is_down = False
        # None where no fall is told
        self.whole_ahead = None
        self.signs_at_fall = 0

    def log_rows(self):
        return list(self.log)

    def page(self, slot):
        return self.pages[slot]

    def writes(self):
        return self.writes_come

    # Each write asks this first: None where all of it comes, else how many signs of it do.
    def signs_that_come(self):
        if self.is_down:
            raise Fell()
        self.writes_come += 1
        if self.whole_ahead is None:
            return None
        if self.whole_ahead > 0:
            self.whole_ahead -= 1
            return None
        self.whole_ahead = None
        self.is_down = True
        return self.signs_at_fall

    def add_row(self, text):
        signs = self.signs_that_come()
        if signs is None:
            self.log.append(text)
            return
        if text[:signs] != "":
            self.log.append(text[:signs])
        raise Fell()

    def put_page(self, slot, text):
        signs = self.signs_that_come()
        if signs is None:
            self.pages[slot] = text
            return
        self.pages[slot] = text[:signs]
        raise Fell()

    def cut_tail(self, many):
        self.cut_log(self.log[:many])

    def cut_head(self, many):
        self.cut_log(self.log[many:])

    def cut_log(self, stay):
        signs = self.signs_that_come()
        # a cut has no signs of its own: it is done whole or not at all
        if signs is None or signs > 0:
            self.log = stay
        if signs is not None:
            raise Fell()

    def fall_at(self, after, signs):
        self.whole_ahead = after
        self.signs_at_fall = signs

    def power(self):
        self.is_down = False
        self.whole_ahead = None

    def copied(self):
        disk = Disk()
        disk.log = list(self.log)
        disk.pages = list(self.pages)
        return disk
