"""Stage 9: the ten numbers by which a net is measured."""

from roadnet.common import is_within
from roadnet.errors import BadMeasures

# Of each measure, in their order: its name, the least and the greatest.
BOUNDS = (
    ("hands", 2, 12),
    ("lag", 1, 32),
    ("miss", 1, 400),
    ("raise", 1, 1000),
    ("count", 0, 60),
    ("room", 1, 16),
    ("places", 1, 16),
    ("window", 1, 60),
    ("wait", 1, 10000),
    ("keep", 0, 10000),
)


def refuse_bad_measures(numbers):
    for number, bound in zip(numbers, BOUNDS):
        name = bound[0]
        least = bound[1]
        most = bound[2]
        if not is_within(number, least, most):
            raise BadMeasures(f"{name} is a whole number from {least} to {most}")


class Measures:
    def __init__(self, hands, lag, miss, raise_each, count, room, places, window, wait, keep):
        refuse_bad_measures([hands, lag, miss, raise_each, count, room, places, window, wait, keep])
        self.hands = hands
        self.lag = lag
        self.miss = miss
        self.raise_each = raise_each
        self.count = count
        self.room = room
        self.places = places
        self.window = window
        self.wait = wait
        self.keep = keep

    def numbers(self):
        return [
            self.hands, self.lag, self.miss, self.raise_each, self.count,
            self.room, self.places, self.window, self.wait, self.keep,
        ]
