"""Benches: a mobile changed by deeds, which can be taken back and done again."""

from hangstill.deeds import longer, plain, put, turned
from hangstill.errors import Nothing
from hangstill.mobiles import check_mobile


class Bench:
    def __init__(self, mobile):
        check_mobile(mobile)
        self.stages = [mobile]
        self.taken_back = []

    def now(self):
        return self.stages[-1]

    def change(self, mobile):
        self.stages.append(mobile)
        self.taken_back = []

    def turn(self, way):
        self.change(turned(self.now(), way))

    def stretch(self, way, many):
        self.change(longer(self.now(), way, many))

    def hang(self, way, part):
        self.change(put(self.now(), way, part))

    def shorten(self):
        self.change(plain(self.now()))

    def undo(self):
        if self.deeds() == 0:
            raise Nothing("there is no deed to take back")
        self.taken_back.append(self.stages.pop())

    def again(self):
        if self.taken_back == []:
            raise Nothing("there is no deed to do again")
        self.stages.append(self.taken_back.pop())

    def deeds(self):
        # The first stage is the mobile ahead of any deed.
        return len(self.stages) - 1
