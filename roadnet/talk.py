"""Stage 7: streams of things go from one end to another, whatever becomes of the goings and answers."""

from roadnet.common import is_text_of
from roadnet.errors import BadThing, NotNow

MOST_SIGNS = 8


def is_signs(thing):
    return len(thing) == 2 and thing[0] == "signs" and is_text_of(thing[1], MOST_SIGNS, " ", "~")


def is_thing(thing):
    if not isinstance(thing, tuple):
        return False
    return thing == ("begin",) or thing == ("end",) or is_signs(thing)


class Teller:
    def __init__(self, window, wait):
        self.window = window
        self.wait = wait
        self.base = 0
        self.top = 0
        self.state = "shut"
        # By places: the things put, and the turns of the last goings.
        self.things = []
        self.goings = {}

    def stands(self):
        return self.state

    def put(self, thing):
        if not is_thing(thing):
            raise BadThing(f"a thing is a begin, one to {MOST_SIGNS} signs from the blank to ~, or an end")
        needed = "shut" if thing[0] == "begin" else "open"
        if self.state != needed:
            raise NotNow(self.state)
        self.state = "shut" if thing[0] == "end" else "open"
        self.things.append(thing)
        return len(self.things) - 1

    def many(self):
        return len(self.things)

    def thing_at(self, place):
        return self.things[place]

    def go(self, turn):
        place = self.place_to_go(turn)
        if place is not None:
            self.goings[place] = turn
            self.top = max(self.top, place + 1)
        return place

    # Base goes ahead of top: as long as it isn't there, nothing behind it can be read.
    def place_to_go(self, turn):
        if self.base < self.top and turn - self.goings[self.base] >= self.wait:
            return self.base
        if self.top < min(self.many(), self.base + self.window):
            return self.top
        return None

    def heard(self, got):
        self.base = max(self.base, got)


class Taker:
    def __init__(self, window):
        self.window = window
        self.got = 0
        self.owed = False
        self.first_unread = 0
        # By places: the things that are there, some beyond got perhaps.
        self.things = {}

    def took(self, place, thing):
        # What comes again may do so because an answer was lost: so one is owed for what isn't new, too.
        self.owed = True
        if place < self.got or place in self.things or place >= self.got + self.window:
            return False
        self.things[place] = thing
        while self.got in self.things:
            self.got = self.got + 1
        return True

    def answered(self):
        self.owed = False
        return self.got

    def read(self):
        things = [self.things[place] for place in range(self.first_unread, self.got)]
        self.first_unread = self.got
        return things


def talk_turns(things, of, late, wait):
    return things * (of * (of * wait + late + 1) + late + wait + 2)
