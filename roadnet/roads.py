"""Stage 1: roads carry letters one way, and lose, delay and double them by a list of deeds."""

from roadnet.common import is_within, own_copy, refuse_below
from roadnet.errors import BadPast, BadRoad

MOST_LAG = 32
MOST_DEEDS = 60
MOST_DELAYS = 3
PLAIN_DEED = (1,)


def is_deed(thing, lag):
    if not isinstance(thing, tuple) or len(thing) > MOST_DELAYS:
        return False
    return all([is_within(delay, 1, lag) for delay in thing])


def refuse_bad_road(deeds, lag):
    if not is_within(lag, 1, MOST_LAG):
        raise BadRoad(f"a lag is a whole number from 1 to {MOST_LAG}")
    if not isinstance(deeds, list) or len(deeds) > MOST_DEEDS:
        raise BadRoad(f"deeds are a list of at most {MOST_DEEDS}")
    if not all([is_deed(deed, lag) for deed in deeds]):
        raise BadRoad(f"a deed is a tuple of at most {MOST_DELAYS} delays, each from 1 to the lag")


class Road:
    def __init__(self, deeds, lag):
        refuse_bad_road(deeds, lag)
        self.deeds = list(deeds)
        self.last_sent = None
        self.last_asked = None
        # Pairs (turn of coming, letter). Sendings rise, so they stand in the order in which they are told.
        self.underway = []

    def deed_of(self, turn):
        if not self.deeds:
            return PLAIN_DEED
        return self.deeds[turn % len(self.deeds)]

    def send(self, turn, letter):
        if self.last_sent is not None and turn <= self.last_sent:
            raise BadPast(self.last_sent)
        self.last_sent = turn
        for delay in self.deed_of(turn):
            # One copy for each coming: who is told one changes no other by it.
            self.underway.append((turn + delay, own_copy(letter)))

    def come(self, turn):
        refuse_below(turn, self.last_asked)
        self.last_asked = turn
        due = [letter for comes, letter in self.underway if comes <= turn]
        self.underway = [pair for pair in self.underway if pair[0] > turn]
        return due


def fairness(deeds):
    if not deeds:
        return 1
    if not any([len(deed) > 0 for deed in deeds]):
        return None
    longest = 0
    lost = 0
    # Twice round, so that a row of lost ones across the end is met whole.
    for deed in deeds + deeds:
        lost = 0 if deed else lost + 1
        longest = max(longest, lost)
    return longest + 1
