"""The net once more, written straight from the document in one piece, without a line of the package: what the two tell
is to be the same."""

NOTHING = (None, None)


class Hand:
    def __init__(self, me, neighbours):
        self.me, self.neighbours = me, neighbours
        self.own = 0
        self.heard_at, self.newest = {}, {}
        self.reports, self.ways, self.marks = {}, {}, {}
        self.prices = {}
        self.kept = {n: [] for n in neighbours}
        self.given = {n: 0 for n in neighbours}
        self.got = {n: 0 for n in neighbours}
        self.gates = {n: [] for n in neighbours}
        self.arrived = []
        self.out_things, self.base, self.top, self.went = {}, {}, {}, {}
        self.in_things, self.in_got, self.in_read, self.owed = {}, {}, {}, set()
        self.near = {}

    def next_of(self, goal):
        way = self.ways.get(goal)
        return way[2] if way else None

    def price_of(self, goal):
        way = self.ways.get(goal)
        return 0 if goal == self.me else way[1] if way else None

    def mark_of(self, goal):
        return (self.own, 0) if goal == self.me else self.marks.get(goal)

    def tells(self):
        told = [(self.me, self.own, 0)]
        for goal, mark in self.marks.items():
            way = self.ways.get(goal)
            told.append((goal, way[0], way[1]) if way else (goal, mark[0], None))
        return sorted(told, key=lambda report: report[0])

    def settle(self):
        for goal in {goal for goal, neighbour in self.reports}:
            mark = self.marks.get(goal)
            choices = []
            for neighbour in self.neighbours:
                generation, price = self.reports.get((goal, neighbour), NOTHING)
                line = self.prices[neighbour]
                if price is None or line is None:
                    continue
                if mark is None or (-generation, price) < (-mark[0], mark[1]):
                    choices.append((price + line, -generation, neighbour))
            self.ways[goal] = None
            if choices:
                price, generation, neighbour = min(choices)
                self.ways[goal] = (-generation, price, neighbour)
                if mark is None or (generation, price) < (-mark[0], mark[1]):
                    self.marks[goal] = (-generation, price)


class Model:
    def __init__(self, measures, lines, changes, roads, wishes):
        (self.n, self.lag, self.miss, self.raise_each, self.count, self.room, self.places, self.window, self.wait,
         self.keep) = measures.numbers()
        self.line = {frozenset(line[:2]): line[2] for line in lines}
        self.there = {pair: price is not None for pair, price in self.line.items()}
        self.changes, self.wishes = list(changes), list(wishes)
        self.deeds = {road[:2]: list(road[2]) for road in roads}
        self.hands = []
        for me in range(self.n):
            self.hands.append(Hand(me, [other for other in range(self.n) if frozenset((me, other)) in self.line]))
        self.underway = []
        self.book, self.states = {}, {}
        self.turn, self.told = 0, []

    def tell(self, *row):
        self.told.append((row[0], self.turn) + row[1:])

    def step(self):
        for turn, a, b, price in self.changes:
            if turn == self.turn:
                self.there[frozenset((a, b))] = price is not None
                self.line[frozenset((a, b))] = price or self.line[frozenset((a, b))]
        for hand in self.hands:
            self.look(hand)
        for hand in self.hands:
            self.settle(hand)
        self.asks = []
        for wish in self.wishes:
            if wish[0] == self.turn:
                self.tell("wish", *wish[1:], self.grant(*wish[1:]))
        for hand in self.hands:
            self.work(hand)
        for hand in self.hands:
            self.send(hand)
        self.turn += 1

    def look(self, hand):
        for neighbour in hand.neighbours:
            due = [letter for letter in self.underway if letter[0] <= self.turn and letter[1:3] == (neighbour, hand.me)]
            self.underway = [letter for letter in self.underway if letter not in due]
            for stamp, reports, parcels, got in [letter[3] for letter in sorted(due, key=lambda one: one[3][0])]:
                hand.heard_at[neighbour] = self.turn
                if stamp > hand.newest.get(neighbour, -1):
                    hand.newest[neighbour] = stamp
                    hand.reports.update({(goal, neighbour): rest for goal, *rest in reports if goal != hand.me})
                handed = []
                for number, parcel in parcels:
                    if number == hand.got[neighbour]:
                        hand.got[neighbour] += 1
                        handed.append(parcel)
                hand.arrived += handed
                hand.kept[neighbour] = [pair for pair in hand.kept[neighbour] if pair[0] >= got]
                self.tell("came", hand.me, neighbour, stamp, tuple(handed))

    def settle(self, hand):
        for neighbour in hand.neighbours:
            missed = self.turn - hand.heard_at.get(neighbour, -1000) > self.miss
            hand.prices[neighbour] = None if missed else self.line[frozenset((hand.me, neighbour))]
        if self.turn and self.turn % self.raise_each == 0:
            hand.own += 1
        ahead = [(hand.next_of(goal), hand.price_of(goal)) for goal in range(self.n)]
        hand.settle()
        for goal in range(self.n):
            if ahead[goal] != (hand.next_of(goal), hand.price_of(goal)):
                self.tell("way", hand.me, goal, hand.next_of(goal), hand.price_of(goal))

    def grant(self, me, word, what):
        if word == "ask":
            self.asks.append((me, what))
        elif word in ("bind", "free"):
            self.book[what] = me if word == "bind" else None
        else:
            goal = what[0] if word == "put" else what
            state = self.states.get((me, goal), "shut")
            if state == ("open" if word == "begin" else "shut"):
                return state
            self.states[me, goal] = "shut" if word == "end" else "open"
            stream = self.hands[me].out_things.setdefault(goal, [])
            if word == "put":
                rest = what[1]
                while rest:
                    stream.append(("signs", rest[:8]))
                    rest = rest[8:]
            else:
                stream.append((word,))
        return "ok"

    def work(self, hand):
        arrived, hand.arrived = hand.arrived, []
        for parcel in arrived:
            self.handle(hand, parcel)
        for goal in sorted(hand.out_things):
            self.go(hand, goal)
        for source in range(self.n):
            self.take(hand, source)
        for me, name in self.asks:
            if me == hand.me == 0:
                self.put_near(hand, name, self.book.get(name), self.turn)
            elif me == hand.me:
                self.handle(hand, (0, me, self.count, ("ask", name, self.turn)))

    def go(self, hand, goal):
        things, base, top = hand.out_things[goal], hand.base.get(goal, 0), hand.top.get(goal, 0)
        if base < top and self.turn >= hand.went[goal, base] + self.wait:
            place = base
        elif top < len(things) and top < base + self.window:
            place = top
            hand.top[goal] = top + 1
        else:
            return
        hand.went[goal, place] = self.turn
        self.handle(hand, (goal, hand.me, self.count, ("piece", place, things[place])))

    def take(self, hand, source):
        things, first = hand.in_things.get(source, {}), hand.in_read.get(source, 0)
        got = hand.in_got.get(source, 0)
        if got > first:
            hand.in_read[source] = got
            self.tell("read", hand.me, source, tuple(things[place] for place in range(first, got)))
        if source in hand.owed:
            hand.owed.discard(source)
            self.handle(hand, (source, hand.me, self.count, ("got", got)))

    def handle(self, hand, parcel):
        goal, source, count, body = parcel
        by = hand.next_of(goal)
        if goal == hand.me:
            self.tell("here", hand.me, parcel)
            self.here(hand, source, body)
        elif count == 0 or by is None:
            self.tell("gone", hand.me, parcel, "none" if count else "count")
        else:
            # A row of pairs (key, its parcels): the first one gives next.
            gate = hand.gates[by]
            key, less = (source, goal, body[0]), (goal, source, count - 1, body)
            waits = dict(gate).get(key)
            if waits is None:
                gate.append((key, [less]))
            elif less not in waits and len(waits) == self.places:
                self.tell("gone", hand.me, parcel, "full")
            elif less not in waits:
                waits.append(less)

    def here(self, hand, source, body):
        if body[0] == "piece":
            hand.owed.add(source)
            things, got = hand.in_things.setdefault(source, {}), hand.in_got.get(source, 0)
            if got <= body[1] < got + self.window:
                things.setdefault(body[1], body[2])
            while got in things:
                got += 1
            hand.in_got[source] = got
        elif body[0] == "got":
            hand.base[source] = max(hand.base.get(source, 0), body[1])
        elif body[0] == "ask":
            answer = ("told", body[1], self.book.get(body[1]), body[2])
            self.handle(hand, (source, hand.me, self.count, answer))
        else:
            self.put_near(hand, *body[1:])

    def put_near(self, hand, name, owner, asked):
        if hand.near.get(name, (None, -1))[1] < asked:
            hand.near[name] = (owner, asked)

    def send(self, hand):
        for neighbour in hand.neighbours:
            gate, kept = hand.gates[neighbour], hand.kept[neighbour]
            while gate and len(kept) < self.room:
                key, waits = gate.pop(0)
                kept.append((hand.given[neighbour], waits.pop(0)))
                hand.given[neighbour] += 1
                if waits:
                    gate.append((key, waits))
            if self.there[frozenset((hand.me, neighbour))]:
                letter = (self.turn, hand.tells(), tuple(kept), hand.got[neighbour])
                self.tell("sent", hand.me, neighbour, letter[2], letter[3])
                deeds = self.deeds.get((hand.me, neighbour)) or [(1,)]
                for delay in deeds[self.turn % len(deeds)]:
                    self.underway.append((self.turn + delay, hand.me, neighbour, letter))

    def is_done(self):
        if any(row[0] >= self.turn for row in self.changes + self.wishes):
            return False
        return all(hand.base.get(goal, 0) == len(put) for hand in self.hands for goal, put in hand.out_things.items())

    def whose(self, me, name):
        owner, asked = self.hands[me].near.get(name, (None, 0))
        return owner if max(self.turn - 1, 0) - asked <= self.keep else None
