"""Stage 8: names are asked of a book, and its answers are kept near for a while."""

from roadnet.common import is_text_of, refuse_below
from roadnet.errors import BadName

MOST_LETTERS = 8


def is_name(thing):
    return is_text_of(thing, MOST_LETTERS, "a", "z")


class Book:
    def __init__(self):
        self.last_told = None
        # By names: pairs (turn, hand or None), in the order in which they were told.
        self.deeds = {}

    def bind(self, name, hand, turn):
        if not is_name(name):
            raise BadName(f"a name is a text of one to {MOST_LETTERS} small letters")
        refuse_below(turn, self.last_told)
        self.last_told = turn
        self.deeds.setdefault(name, []).append((turn, hand))

    def free(self, name, turn):
        self.bind(name, None, turn)

    def told(self, name):
        deeds = self.deeds.get(name, [])
        return deeds[-1][1] if deeds else None

    def had(self, name, hand, first, last):
        if first > last:
            return False
        deeds = self.deeds.get(name, [])
        for place, deed in enumerate(deeds):
            begins_in_time = deed[1] == hand and deed[0] <= last
            # The turn of the deed behind counts for both: the name is the hand's up to that turn, itself too.
            is_last = place + 1 == len(deeds)
            if begins_in_time and (is_last or deeds[place + 1][0] >= first):
                return True
        return False


class Near:
    def __init__(self, keep):
        self.keep = keep
        # By names: pairs (hand or None, the turn of asking).
        self.answers = {}

    def put(self, name, hand, asked):
        if name not in self.answers or self.answers[name][1] < asked:
            self.answers[name] = (hand, asked)

    def is_fresh(self, name, turn):
        return turn - self.answers[name][1] <= self.keep

    def find(self, name, turn):
        if name in self.answers and self.is_fresh(name, turn):
            return self.answers[name][0]
        return None

    def thin(self, turn):
        for name in list(self.answers):
            if not self.is_fresh(name, turn):
                self.answers.pop(name)
        return len(self.answers)
