"""The refusals of the program. Each stands right under RoadError, so that one can be taken without another."""


class RoadError(ValueError):
    pass


class BadRoad(RoadError):
    pass


class BadPast(RoadError):
    def __init__(self, turn):
        RoadError.__init__(self, f"that turn is past: the last one was {turn}")
        self.turn = turn


class Full(RoadError):
    pass


class BadThing(RoadError):
    pass


class NotNow(RoadError):
    def __init__(self, state):
        RoadError.__init__(self, f"not now: the stream is {state}")
        self.state = state


class BadName(RoadError):
    pass


class BadMeasures(RoadError):
    pass


class BadLine(RoadError):
    def __init__(self, at):
        RoadError.__init__(self, f"no good line at place {at}")
        self.at = at


class BadWish(RoadError):
    def __init__(self, at):
        RoadError.__init__(self, f"no good wish at place {at}")
        self.at = at


class NoRow(RoadError):
    def __init__(self, at):
        RoadError.__init__(self, f"no good row at place {at}")
        self.at = at
