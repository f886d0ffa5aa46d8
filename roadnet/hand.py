"""Stage 9: one hand of the net: what it keeps, and what it does in a turn, by what it is told alone."""

from roadnet.carry import handled
from roadnet.gate import Gate
from roadnet.link import In, Out
from roadnet.names import Book, Near
from roadnet.talk import Taker, Teller
from roadnet.watch import Watch
from roadnet.ways import Ways

BOOK_HAND = 0


# What a hand keeps for one neighbour.
class Side:
    def __init__(self, measures):
        self.watch = Watch(measures.miss)
        self.sender = Out(measures.room)
        self.taker = In()
        self.gate = Gate(measures.places)

    def fill(self):
        for parcel in self.gate.out(self.sender.free()):
            self.sender.put(parcel)


class Hand:
    def __init__(self, me, measures, neighbours):
        others = [hand for hand in range(measures.hands) if hand != me]
        self.me = me
        self.measures = measures
        self.ways = Ways(me)
        # By neighbours, by goals, by sources: each rising, as they are walked.
        self.sides = dict([(neighbour, Side(measures)) for neighbour in sorted(neighbours)])
        self.tellers = dict([(goal, Teller(measures.window, measures.wait)) for goal in others])
        self.takers = dict([(source, Taker(measures.window)) for source in others])
        self.near = Near(measures.keep)
        self.book = Book() if me == BOOK_HAND else None
        self.arrived = []

    # Step 2 is taken letter by letter: which road each came over only the net knows. Told is its row.
    def look_at(self, turn, neighbour, letter):
        side = self.sides[neighbour]
        stamp = letter[0]
        if side.watch.heard(turn, stamp):
            self.ways.heard(neighbour, letter[1])
        handed_on = side.taker.took(letter[2])
        self.arrived.extend(handed_on)
        side.sender.told(letter[3])
        return ("came", turn, self.me, neighbour, stamp, tuple(handed_on))

    # Step 3. The net keeps the lines, so it hands in their last prices, by neighbours. Told are rows.
    def settle(self, turn, prices):
        for neighbour, side in self.sides.items():
            self.ways.priced(neighbour, prices[neighbour] if side.watch.is_there(turn) else None)
        if turn > 0 and turn % self.measures.raise_each == 0:
            self.ways.raise_own()
        ahead = [self.way_to(goal) for goal in range(self.measures.hands)]
        self.ways.settle()
        rows = []
        for goal, was in enumerate(ahead):
            way = self.way_to(goal)
            if way != was:
                rows.append(("way", turn, self.me, goal, way[0], way[1]))
        return rows

    def way_to(self, goal):
        return (self.ways.next_of(goal), self.ways.price_of(goal))

    # Of each of its streams all that was put is known to be there.
    def is_heard_out(self):
        return all([teller.base == teller.many() for teller in self.tellers.values()])

    # Step 5. The names are those of the asks that were put off to it, in their order. Told are rows.
    def work(self, turn, names):
        rows = []
        arrived = self.arrived
        self.arrived = []
        for parcel in arrived:
            self.handle(turn, parcel, rows)
        self.tell_streams(turn, rows)
        self.take_streams(turn, rows)
        for name in names:
            self.ask(turn, name, rows)
        return rows

    def handle(self, turn, parcel, rows):
        told = handled(self.me, parcel, lambda goal: self.ways.next_of(goal))
        if told[0] == "here":
            rows.append(("here", turn, self.me, parcel))
            self.take(turn, parcel, rows)
        elif told[0] == "gone":
            rows.append(("gone", turn, self.me, parcel, told[1]))
        elif not self.pass_on(told[1], told[2]):
            rows.append(("gone", turn, self.me, parcel, "full"))

    def pass_on(self, hand, parcel):
        key = (parcel[1], parcel[0], parcel[3][0])
        return self.sides[hand].gate.put(key, parcel)

    def take(self, turn, parcel, rows):
        source = parcel[1]
        body = parcel[3]
        if body[0] == "piece":
            self.takers[source].took(body[1], body[2])
        elif body[0] == "got":
            self.tellers[source].heard(body[1])
        elif body[0] == "ask":
            self.make(turn, source, ("told", body[1], self.book.told(body[1]), body[2]), rows)
        else:
            self.near.put(body[1], body[2], body[3])

    def make(self, turn, goal, body, rows):
        self.handle(turn, (goal, self.me, self.measures.count, body), rows)

    def tell_streams(self, turn, rows):
        for goal, teller in self.tellers.items():
            place = teller.go(turn)
            if place is not None:
                self.make(turn, goal, ("piece", place, teller.thing_at(place)), rows)

    def take_streams(self, turn, rows):
        for source, taker in self.takers.items():
            things = taker.read()
            if things:
                rows.append(("read", turn, self.me, source, tuple(things)))
            if taker.owed:
                self.make(turn, source, ("got", taker.answered()), rows)

    # The hand that keeps the book needs no parcel to ask it.
    def ask(self, turn, name, rows):
        if self.me == BOOK_HAND:
            self.near.put(name, self.book.told(name), turn)
        else:
            self.make(turn, BOOK_HAND, ("ask", name, turn), rows)

    # Step 6. The net hands in the neighbours to which a line is there, since to the others no letter goes; the gates
    # give out for them all the same. Told are pairs (neighbour, letter), and rows.
    def send(self, turn, lines):
        letters = []
        rows = []
        for neighbour, side in self.sides.items():
            side.fill()
            if neighbour in lines:
                letter = (turn, self.ways.reports(), side.sender.parcels(), side.taker.got)
                letters.append((neighbour, letter))
                rows.append(("sent", turn, self.me, neighbour, letter[2], letter[3]))
        return (letters, rows)
