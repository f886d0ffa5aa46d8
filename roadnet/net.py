"""Stage 9: the whole net: hands joined by lines, which take a step together in each turn."""

from roadnet.errors import NotNow
from roadnet.hand import BOOK_HAND, Hand
from roadnet.plan import by_turns, last_turn, pair_of, refuse_bad_plan
from roadnet.roads import Road
from roadnet.talk import MOST_SIGNS

NOTHING_AHEAD = -1


def neighbours_of(hand, lines):
    return [line[1] if line[0] == hand else line[0] for line in lines if hand in (line[0], line[1])]


# By pairs (from, to), two for each line.
def roads_of(lines, roads, lag):
    deeds = dict([((road[0], road[1]), road[2]) for road in roads])
    made = {}
    for line in lines:
        for way in ((line[0], line[1]), (line[1], line[0])):
            made[way] = Road(deeds.get(way, []), lag)
    return made


def things_of(word, what):
    if word != "put":
        return [(word,)]
    text = what[1]
    return [("signs", text[first:first + MOST_SIGNS]) for first in range(0, len(text), MOST_SIGNS)]


# The first thing is refused or none: behind signs that were put a stream is open still.
def put_all(teller, things):
    try:
        for thing in things:
            teller.put(thing)
    except NotNow as e:
        return e.state
    return "ok"


class Net:
    def __init__(self, measures, lines, changes, roads, wishes):
        refuse_bad_plan(measures, lines, changes, roads, wishes)
        self.turn = 0
        # By pairs of hands: a line that is there no more keeps its last price.
        self.last_prices = dict([(pair_of(line[0], line[1]), line[2]) for line in lines])
        self.lines_there = dict([(pair_of(line[0], line[1]), line[2] is not None) for line in lines])
        self.changes = by_turns(changes)
        self.wishes = by_turns(wishes)
        self.last_ahead = last_turn(list(changes) + list(wishes), NOTHING_AHEAD)
        self.hands = [Hand(hand, measures, neighbours_of(hand, lines)) for hand in range(measures.hands)]
        self.roads = roads_of(lines, roads, measures.lag)
        # By turns: lists of the rows told in each.
        self.told_rows = []

    def step(self):
        turn = self.turn
        rows = []
        self.change_lines(turn)
        self.look_round(turn, rows)
        self.settle_ways(turn, rows)
        asks = self.grant_wishes(turn, rows)
        for hand in self.hands:
            rows.extend(hand.work(turn, asks[hand.me]))
        self.send_letters(turn, rows)
        self.told_rows.append(rows)
        self.turn = turn + 1

    def change_lines(self, turn):
        for change in self.changes.get(turn, []):
            pair = (change[1], change[2])
            price = change[3]
            self.lines_there[pair] = price is not None
            if price is not None:
                self.last_prices[pair] = price

    def look_round(self, turn, rows):
        for hand in self.hands:
            for neighbour in hand.sides:
                for letter in self.roads[(neighbour, hand.me)].come(turn):
                    rows.append(hand.look_at(turn, neighbour, letter))

    def settle_ways(self, turn, rows):
        for hand in self.hands:
            prices = dict([(neighbour, self.last_prices[pair_of(hand.me, neighbour)]) for neighbour in hand.sides])
            rows.extend(hand.settle(turn, prices))

    # Told are, by hands, the names of the asks that are put off.
    def grant_wishes(self, turn, rows):
        asks = dict([(hand.me, []) for hand in self.hands])
        for wish in self.wishes.get(turn, []):
            hand = wish[1]
            if wish[2] == "ask":
                asks[hand].append(wish[3])
            rows.append(("wish", turn, hand, wish[2], wish[3], self.grant(turn, hand, wish[2], wish[3])))
        return asks

    def grant(self, turn, hand, word, what):
        if word in ("begin", "end", "put"):
            goal = what[0] if word == "put" else what
            return put_all(self.hands[hand].tellers[goal], things_of(word, what))
        book = self.hands[BOOK_HAND].book
        if word == "bind":
            book.bind(what, hand, turn)
        elif word == "free":
            book.free(what, turn)
        return "ok"

    def send_letters(self, turn, rows):
        for hand in self.hands:
            there = [neighbour for neighbour in hand.sides if self.lines_there[pair_of(hand.me, neighbour)]]
            sent = hand.send(turn, there)
            for neighbour, letter in sent[0]:
                self.roads[(hand.me, neighbour)].send(turn, letter)
            rows.extend(sent[1])

    def is_done(self):
        return self.turn > self.last_ahead and all([hand.is_heard_out() for hand in self.hands])

    def run(self, most):
        while self.turn < most and not self.is_done():
            self.step()
        return self.turn

    def rows(self):
        rows = []
        for told in self.told_rows:
            rows.extend(told)
        return rows

    def rows_in(self, turn):
        return list(self.told_rows[turn]) if turn < self.turn else []

    def next_of(self, hand, goal):
        return self.hands[hand].ways.next_of(goal)

    def price_of(self, hand, goal):
        return self.hands[hand].ways.price_of(goal)

    def mark_of(self, hand, goal):
        return self.hands[hand].ways.mark_of(goal)

    def whose(self, hand, name):
        return self.hands[hand].near.find(name, max(self.turn - 1, 0))
