"""Promises 0.1 to 0.3 over the whole program: the interface as it stands, what is handed in, and what is told."""

import copy
import importlib
import inspect
import unittest

from roadnet.desk import Desk
from roadnet.gate import Gate
from roadnet.link import Out
from roadnet.measures import Measures
from roadnet.names import Book, Near
from roadnet.net import Net
from roadnet.reckon import crossing_turns, done_turn, keys_of, settled_turn, things_most
from roadnet.roads import Road
from roadnet.talk import Teller
from roadnet.texts import net_text, read_net, row_text
from roadnet.ways import Ways
from tests.nets import fair_net, wild_net

TEN = "hands lag miss raise_each count room places window wait keep"

# By modules: functions and classes with their arguments, of classes their methods too.
INTERFACE = {
    "roads": {"fairness": "deeds", "Road": ("deeds lag", {"send": "turn letter", "come": "turn"})},
    "watch": {"Watch": ("miss", {"heard": "turn stamp", "is_there": "turn"})},
    "ways": {
        "better": "one other", "chain": "next_ofs start goal",
        "Ways": ("me", {
            "raise_own": "", "heard": "neighbour reports", "priced": "neighbour price", "settle": "", "reports": "",
            "next_of": "goal", "price_of": "goal", "mark_of": "goal",
        }),
    },
    "link": {
        "Out": ("room", {"free": "", "put": "parcel", "told": "got", "parcels": ""}), "In": ("", {"took": "pairs"}),
    },
    "gate": {"Gate": ("places", {"put": "key parcel", "out": "many", "waiting": "", "waits": "key"})},
    "carry": {"handled": "me parcel next_of", "carried": "parcel start next_ofs"},
    "talk": {
        "talk_turns": "things of late wait",
        "Teller": ("window wait", {
            "stands": "", "put": "thing", "many": "", "thing_at": "place", "go": "turn", "heard": "got",
        }),
        "Taker": ("window", {"took": "place thing", "answered": "", "read": ""}),
    },
    "names": {
        "is_name": "thing",
        "Book": ("", {"bind": "name hand turn", "free": "name turn", "told": "name", "had": "name hand first last"}),
        "Near": ("keep", {"put": "name hand asked", "find": "name turn", "thin": "turn"}),
    },
    "measures": {"Measures": (TEN, {"numbers": ""})},
    "net": {
        "Net": ("measures lines changes roads wishes", {
            "step": "", "run": "most", "is_done": "", "rows": "", "next_of": "hand goal", "price_of": "hand goal",
            "mark_of": "hand goal", "whose": "hand name",
        }),
    },
    "reckon": {
        "settled_turn": "measures fair last", "crossing_turns": "measures fair keys", "keys_of": "wishes",
        "things_most": "wishes", "done_turn": "measures fair last wishes",
    },
    "texts": {
        "thing_text": "thing", "row_text": "row", "net_text": "measures lines changes roads wishes", "read_net": "text",
    },
    "desk": {"Desk": ("", {"say": "row"})},
}


def arguments(deed):
    return [name for name in inspect.signature(deed).parameters if name != "self"]


def told_of(net, turns):
    for _ in range(turns):
        net.step()
    return net.rows()


class TestInterface(unittest.TestCase):
    def test_names_and_arguments(self):
        for module, things in INTERFACE.items():
            module = importlib.import_module("roadnet." + module)
            for name, told in things.items():
                with self.subTest(module=module.__name__, name=name):
                    thing = getattr(module, name)
                    self.assertEqual(thing.__module__, module.__name__)
                    own, methods = (told, {}) if isinstance(told, str) else told
                    self.assertEqual(arguments(thing), own.split())
                    for method, its_own in methods.items():
                        self.assertEqual(arguments(getattr(thing, method)), its_own.split(), method)

    def test_fields(self):
        measures = Measures(*range(2, 12))
        self.assertEqual([getattr(measures, name) for name in TEN.split()], list(range(2, 12)))
        self.assertEqual(Net(measures, [], [], [], []).turn, 0)


class TestWithoutAnswer(unittest.TestCase):
    def test_none_is_given_back(self):
        ways, out, teller, book = Ways(0), Out(2), Teller(2, 3), Book()
        net = Net(*wild_net(0))
        out.put("parcel")
        for told in (
            Road([], 1).send(0, "letter"), ways.raise_own(), ways.heard(1, [(1, 0, 0)]), ways.priced(1, 3),
            ways.settle(), out.told(1), teller.heard(0), book.bind("inn", 1, 0), book.free("inn", 1),
            Near(3).put("inn", 1, 0), net.step(),
        ):
            self.assertIsNone(told)


class TestHandedIn(unittest.TestCase):
    def test_a_net_changes_nothing_of_it(self):
        for seed in range(10):
            plan = wild_net(seed)
            ahead, numbers = copy.deepcopy(plan[1:]), plan[0].numbers()
            told_of(Net(*plan), 60)
            self.assertEqual([plan[1:], plan[0].numbers()], [ahead, numbers])

    def test_what_is_done_to_it_behind_changes_nothing(self):
        for seed in range(10):
            expected = told_of(Net(*wild_net(seed)), 100)
            for wait in (0, 20):
                plan = wild_net(seed)
                net = Net(*plan)
                told_of(net, wait)
                for road in plan[3]:
                    road[2][:] = [()]
                for rows in plan[1:]:
                    rows.clear()
                self.assertEqual(told_of(net, 100 - wait), expected)

    def test_nor_what_is_put_behind_it(self):
        plan = wild_net(3)
        expected = [Net(*plan).is_done(), told_of(Net(*plan), 100)]
        net = Net(*plan)
        plan[2].append((50, plan[1][0][0], plan[1][0][1], 999))
        plan[4].insert(0, (0, 0, "begin", 1))
        self.assertEqual([net.is_done(), told_of(net, 100)], expected)

    def test_reckoning_and_writing_change_nothing_of_it(self):
        for seed in range(10):
            fair, plan = fair_net(seed)
            ahead, numbers = copy.deepcopy(plan[1:]), plan[0].numbers()
            for _ in range(2):
                settled_turn(plan[0], fair, 3)
                crossing_turns(plan[0], fair, keys_of(plan[4]) + things_most(plan[4]))
                done_turn(plan[0], fair, 3, plan[4])
                net_text(*plan)
            self.assertEqual([plan[1:], plan[0].numbers()], [ahead, numbers])

    def test_rows_that_are_written_stay(self):
        rows = told_of(Net(*wild_net(1)), 60)
        ahead = copy.deepcopy(rows)
        self.assertEqual([row_text(row) for row in rows], [row_text(row) for row in ahead])
        self.assertEqual(rows, ahead)


class TestTold(unittest.TestCase):
    def test_lists_are_new_each_time(self):
        gate, net = Gate(2), Net(*wild_net(2))
        gate.put("key", (1,))
        told_of(net, 30)
        for ask in (
            Ways(0).reports, gate.waiting, net.rows, wild_net(2)[0].numbers,
            lambda: read_net("measures 5 3 20 50 9 4 4 2 30 20\nline 0 1 3")[1],
        ):
            told = ask()
            ahead = list(told)
            told.append("behind")
            self.assertEqual(ask(), ahead)

    def test_rows_told_ahead_stay_when_the_net_goes_on(self):
        net = Net(*wild_net(2))
        told = told_of(net, 30)
        ahead = list(told)
        told_of(net, 10)
        self.assertEqual(told, ahead)

    def test_the_same_is_told_each_time(self):
        for seed in range(5):
            self.assertEqual(told_of(Net(*wild_net(seed)), 80), told_of(Net(*wild_net(seed)), 80))

    def test_nets_beside_one_another(self):
        plans = [wild_net(seed) for seed in range(4)]
        alone = [told_of(Net(*plan), 60) for plan in plans]
        nets = [Net(*plan) for plan in plans]
        for _ in range(60):
            for net in nets:
                net.step()
        self.assertEqual([net.rows() for net in nets], alone)

    def test_a_desk_answers_by_texts(self):
        desk = Desk()
        rows = ["net\n" + net_text(*wild_net(4)), "run 40", "turn", "done", "text", "next 0 1", "price 0 1", "mark 0 1"]
        rows += ["chain 0 1", "found 0 inn", "read 0 1", "rows 3", "settled", "doneby"]
        for row in rows:
            self.assertIs(type(desk.say(row)), str)
