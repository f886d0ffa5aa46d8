"""Stage 2: a watch tells whether a neighbour is there, by when it was heard last."""

from roadnet.common import is_within, refuse_below
from roadnet.errors import BadMeasures

MOST_MISS = 400


class Watch:
    def __init__(self, miss):
        if not is_within(miss, 1, MOST_MISS):
            raise BadMeasures(f"miss is a whole number from 1 to {MOST_MISS}")
        self.miss = miss
        self.last_heard = None
        self.newest = None

    def heard(self, turn, stamp):
        refuse_below(turn, self.last_heard)
        self.last_heard = turn
        is_newer = self.newest is None or stamp > self.newest
        if is_newer:
            self.newest = stamp
        return is_newer

    def is_there(self, turn):
        refuse_below(turn, self.last_heard)
        return self.last_heard is not None and turn - self.last_heard <= self.miss
