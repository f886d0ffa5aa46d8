"""Stage 9: promise 9.7, over many nets with roads that lose, double and delay letters; and the net beside the model."""

import unittest

from roadnet.names import Book
from roadnet.net import Net
from roadnet.reckon import done_turn, settled_turn
from roadnet.roads import fairness
from roadnet.ways import better, chain
from tests.model import Model
from tests.nets import NAMES, at_last, fair_net, least_prices, wild_net

WILD_TURNS = 130


def next_ofs_of(net, hands):
    return [lambda goal, hand=hand: net.next_of(hand, goal) for hand in range(hands)]


def pairs_of(hands):
    return [(hand, goal) for hand in range(hands) for goal in range(hands)]


class TestBesideTheModel(unittest.TestCase):
    def test_the_same_rows_and_answers(self):
        for seed in range(70):
            plan = wild_net(seed)
            net, model = Net(*plan), Model(*plan)
            for turn in range(WILD_TURNS):
                self.assertEqual(net.is_done(), model.is_done(), (seed, turn))
                net.step()
                model.step()
                self.same_answers(net, model, (seed, turn))
            self.assertEqual(net.rows(), model.told, seed)

    def same_answers(self, net, model, where):
        for hand, goal in pairs_of(model.n):
            told = (net.next_of(hand, goal), net.price_of(hand, goal), net.mark_of(hand, goal))
            kept = model.hands[hand]
            self.assertEqual(told, (kept.next_of(goal), kept.price_of(goal), kept.mark_of(goal)), where)
        for hand in range(model.n):
            for name in NAMES:
                self.assertEqual(net.whose(hand, name), model.whose(hand, name), where)


class Watched:
    """A net, and what is promised of it at each turn, whatever its roads and measures are."""

    def __init__(self, case, plan, where):
        self.case, self.plan, self.where = case, plan, where
        self.measures = plan[0]
        self.net = Net(*plan)
        self.next_ofs = next_ofs_of(self.net, self.measures.hands)
        self.put, self.read, self.book, self.seen = {}, {}, Book(), 0

    def step(self):
        self.net.step()
        for row in self.net.rows_in(self.net.turn - 1):
            if row[0] == "wish" and row[5] == "ok":
                self.granted(*row[1:5])
            elif row[0] == "read":
                self.read.setdefault(row[2:4], []).extend(row[4])
            elif row[0] == "sent":
                self.case.assertLessEqual(len(row[4]), self.measures.room, self.where)
        self.no_rings()
        self.beginnings()
        self.gates()
        self.names()

    def granted(self, turn, hand, word, what):
        if word in ("begin", "end"):
            self.put.setdefault((what, hand), []).append((word,))
        elif word == "put":
            cut = [("signs", what[1][first:first + 8]) for first in range(0, len(what[1]), 8)]
            self.put.setdefault((what[0], hand), []).extend(cut)
        elif word == "bind":
            self.book.bind(what, hand, turn)
        elif word == "free":
            self.book.free(what, turn)

    def no_rings(self):
        for hand, goal in pairs_of(self.measures.hands):
            met = chain(self.next_ofs, hand, goal)
            self.case.assertEqual(len(set(met)), len(met), self.where)
            marks = [self.net.mark_of(one, goal) for one in met]
            for mark, following in zip(marks, marks[1:]):
                self.case.assertTrue(better(following, mark), self.where)

    def beginnings(self):
        for ends, things in self.read.items():
            self.case.assertEqual(things, self.put.get(ends, [])[:len(things)], self.where)

    def gates(self):
        for hand in self.net.hands:
            for side in hand.sides.values():
                for key in side.gate.waiting():
                    self.case.assertLessEqual(side.gate.waits(key), self.measures.places, self.where)

    def names(self):
        turn = self.net.turn - 1
        for hand in range(self.measures.hands):
            for name in NAMES:
                found = self.net.whose(hand, name)
                if found is not None:
                    first = max(turn - self.measures.keep, 0)
                    self.case.assertTrue(self.book.had(name, found, first, turn), self.where)
                    self.seen += 1


class TestPromises(unittest.TestCase):
    def test_at_each_turn_of_wild_nets(self):
        seen, read = 0, 0
        for seed in range(1000, 1060):
            watched = Watched(self, wild_net(seed), seed)
            for _ in range(WILD_TURNS):
                watched.step()
            seen += watched.seen
            read += sum(len(things) for things in watched.read.values())
        self.assertGreater(seen, 200)
        self.assertGreater(read, 100)

    def test_settled_and_done_by_the_turns_reckoned(self):
        done = 0
        for seed in range(60):
            fair, plan = fair_net(seed)
            measures, lines, changes, roads, wishes = plan
            self.assertLessEqual(max([1] + [fairness(road[2]) for road in roads]), fair)
            last_change = max([change[0] for change in changes], default=-1)
            last = max([last_change] + [wish[0] for wish in wishes])
            settled = settled_turn(measures, fair, last_change)
            by = done_turn(measures, fair, last, wishes)
            self.assertIsNotNone(by)
            watched = Watched(self, plan, seed)
            while watched.net.turn < settled + 2 * measures.raise_each or not watched.net.is_done():
                watched.step()
                if watched.net.turn > settled:
                    self.least(watched, seed)
                self.assertTrue(watched.net.turn < by or watched.net.is_done(), seed)
            self.assertEqual(watched.read, {ends: things for ends, things in watched.put.items() if things}, seed)
            done += len(watched.read)
        self.assertGreater(done, 40)

    # net.turn is one more than the last turn taken: what is told is as of that one.
    def least(self, watched, seed):
        hands, prices = watched.measures.hands, at_last(watched.plan[1], watched.plan[2])
        least = least_prices(hands, prices)
        for hand, goal in pairs_of(hands):
            self.assertEqual(watched.net.price_of(hand, goal), least[hand, goal], seed)
            by = watched.net.next_of(hand, goal)
            if hand == goal or least[hand, goal] is None:
                self.assertIsNone(by, seed)
            else:
                self.assertEqual(prices[min(hand, by), max(hand, by)] + least[by, goal], least[hand, goal], seed)
