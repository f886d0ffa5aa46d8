"""Stage 9: one hand of the net, promise 9.3 where it speaks of a hand, and the rows of 9.4 that tell of it."""

import itertools
import random
import unittest

from roadnet.errors import RoadError
from roadnet.hand import Hand
from roadnet.measures import Measures
from roadnet.roads import Road

BEGIN, END = ("begin",), ("end",)
MEASURES = {
    "hands": 5, "lag": 3, "miss": 4, "raise_each": 1000, "count": 9,
    "room": 4, "places": 4, "window": 6, "wait": 5, "keep": 20,
}


def signs(text):
    return ("signs", text)


def measures_of(**others):
    return Measures(**{**MEASURES, **others})


def hand_of(me, neighbours, **others):
    return Hand(me, measures_of(**others), neighbours)


def letter_of(stamp, reports=(), parcels=(), got=0):
    return (stamp, list(reports), tuple(parcels), got)


def joined(me, neighbours, **others):
    """A hand that has heard of each neighbour in turn 0, and has a way of price 1 to it."""
    hand = hand_of(me, neighbours, **others)
    for neighbour in neighbours:
        hand.look_at(0, neighbour, letter_of(0, [(neighbour, 0, 0)]))
    hand.settle(0, {neighbour: 1 for neighbour in neighbours})
    return hand


def arrive(hand, turn, *parcels):
    """Parcels come from the least neighbour, numbered on."""
    neighbour = min(hand.sides)
    first = hand.sides[neighbour].taker.got
    hand.look_at(turn, neighbour, letter_of(turn, [], enumerate(parcels, first)))


def waiting(hand, neighbour):
    """What waits at the neighbour's gate, by keys in their row; it is all given out."""
    gate = hand.sides[neighbour].gate
    keys = {key: gate.waits(key) for key in gate.waiting()}
    return keys, gate.out(1000)


def piece(goal, source, place, thing=BEGIN, count=9):
    return (goal, source, count, ("piece", place, thing))


class TestLookAt(unittest.TestCase):
    def test_a_row_for_each_letter(self):
        hand = hand_of(2, [1, 3])
        parcels = [(2, 1, 4, ("got", 0)), (0, 1, 4, ("got", 0))]
        self.assertEqual(hand.look_at(5, 1, letter_of(4)), ("came", 5, 2, 1, 4, ()))
        told = hand.look_at(5, 1, letter_of(3, [], enumerate(parcels)))
        self.assertEqual(told, ("came", 5, 2, 1, 3, tuple(parcels)))
        self.assertEqual(hand.look_at(6, 3, letter_of(0)), ("came", 6, 2, 3, 0, ()))

    def test_the_row_has_those_parcels_alone_that_are_handed_on(self):
        hand = hand_of(2, [1])
        parcels = [(2, 1, 4, ("got", 0)), (0, 1, 4, ("got", 0)), (3, 1, 4, ("got", 0))]
        pairs = list(enumerate(parcels))
        self.assertEqual(hand.look_at(1, 1, letter_of(0, [], pairs[1:]))[5], ())
        self.assertEqual(hand.look_at(1, 1, letter_of(1, [], pairs[:2]))[5], tuple(parcels[:2]))
        self.assertEqual(hand.look_at(1, 1, letter_of(1, [], pairs[:2]))[5], ())
        self.assertEqual(hand.look_at(1, 1, letter_of(1, [], pairs))[5], tuple(parcels[2:]))

    def test_reports_of_letters_newer_than_all_alone(self):
        for stamp, is_newer in ((8, True), (7, False), (6, False), (0, False)):
            hand = hand_of(2, [1])
            hand.look_at(8, 1, letter_of(7, [(1, 0, 0), (4, 0, 6)]))
            hand.look_at(8, 1, letter_of(stamp, [(1, 0, 0), (4, 0, None), (3, 0, 9)]))
            hand.settle(8, {1: 2})
            self.assertEqual(hand.way_to(4), (None, None) if is_newer else (1, 8))
            self.assertEqual(hand.way_to(3), (1, 11) if is_newer else (None, None))

    def test_newer_than_all_of_that_neighbour(self):
        hand = hand_of(2, [1, 3])
        hand.look_at(8, 1, letter_of(7, [(1, 0, 0)]))
        hand.look_at(8, 3, letter_of(2, [(3, 0, 0)]))
        hand.settle(8, {1: 2, 3: 2})
        self.assertEqual((hand.way_to(1), hand.way_to(3)), ((1, 2), (3, 2)))

    def test_parcels_and_got_of_every_letter(self):
        hand = joined(2, [1])
        hand.look_at(5, 1, letter_of(5))
        for source in (3, 4):
            hand.sides[1].gate.put("x", (1, source, 0, ("got", 0)))
        hand.send(5, [])
        self.assertEqual(len(hand.sides[1].sender.parcels()), 2)
        parcel = (0, 1, 4, ("got", 0))
        self.assertEqual(hand.look_at(6, 1, letter_of(4, [], [(0, parcel)], 1))[5], (parcel,))
        self.assertEqual(hand.sides[1].sender.parcels(), ((1, (1, 4, 0, ("got", 0))),))
        self.assertEqual(hand.work(6, []), [("gone", 6, 2, parcel, "none")])

    def test_each_neighbour_has_its_own_link_and_gate(self):
        hand = joined(2, [1, 3])
        parcel = (0, 1, 4, ("got", 0))
        for neighbour in (1, 3):
            self.assertEqual(hand.look_at(1, neighbour, letter_of(1, [], [(0, parcel)]))[5], (parcel,))
        hand.sides[1].gate.put("x", (1, 4, 0, ("got", 0)))
        told = hand.send(1, [1, 3])[1]
        self.assertEqual(told, [("sent", 1, 2, 1, ((0, (1, 4, 0, ("got", 0))),), 1), ("sent", 1, 2, 3, (), 1)])

    def test_an_old_letter_is_heard_too(self):
        hand = hand_of(2, [1])
        hand.look_at(0, 1, letter_of(0, [(1, 0, 0)]))
        hand.look_at(3, 1, letter_of(0))
        self.assertEqual(hand.settle(7, {1: 1}), [("way", 7, 2, 1, 1, 1)])
        self.assertEqual(hand.settle(8, {1: 1}), [("way", 8, 2, 1, None, None)])

    def test_what_is_handed_in_stays_and_is_not_kept(self):
        hand = hand_of(2, [1])
        reports = [(1, 0, 0)]
        hand.look_at(0, 1, (0, reports, (), 0))
        reports.append((4, 0, 3))
        self.assertEqual(hand.settle(0, {1: 1}), [("way", 0, 2, 1, 1, 1)])
        self.assertEqual(reports, [(1, 0, 0), (4, 0, 3)])


class TestSettle(unittest.TestCase):
    def test_nothing_at_first(self):
        for me in (0, 4):
            self.assertEqual(hand_of(me, [1, 2]).settle(0, {1: 3, 2: None}), [])

    def test_a_row_for_each_goal_rising_that_changed(self):
        hand = hand_of(2, [1, 3])
        hand.look_at(4, 3, letter_of(2, [(0, 0, 7), (1, 0, 2), (3, 0, 0), (4, 0, 1)]))
        hand.look_at(4, 1, letter_of(2, [(0, 0, 7), (1, 0, 0), (2, 0, 5)]))
        wanted = [("way", 4, 2, 0, 3, 8), ("way", 4, 2, 1, 3, 3), ("way", 4, 2, 3, 3, 1), ("way", 4, 2, 4, 3, 2)]
        self.assertEqual(hand.settle(4, {1: 5, 3: 1}), wanted)
        self.assertEqual(hand.settle(5, {1: 5, 3: 1}), [])

    def test_a_row_where_the_price_or_the_next_hand_changed(self):
        hand = hand_of(2, [1, 3])
        hand.look_at(1, 1, letter_of(0, [(0, 0, 4)]))
        self.assertEqual(hand.settle(1, {1: 2, 3: 1}), [("way", 1, 2, 0, 1, 6)])
        hand.look_at(2, 1, letter_of(1, [(0, 1, 4)]))
        self.assertEqual(hand.settle(2, {1: 2, 3: 1}), [])
        self.assertEqual(hand.settle(3, {1: 3, 3: 1}), [("way", 3, 2, 0, 1, 7)])
        hand.look_at(4, 3, letter_of(1, [(0, 2, 6)]))
        hand.look_at(4, 1, letter_of(2, [(0, 2, None)]))
        self.assertEqual(hand.settle(4, {1: 3, 3: 1}), [("way", 4, 2, 0, 3, 7)])
        hand.look_at(5, 3, letter_of(2, [(0, 2, None)]))
        self.assertEqual(hand.settle(5, {1: 3, 3: 1}), [("way", 5, 2, 0, None, None)])

    def test_the_lines_price_as_long_as_the_neighbour_is_there(self):
        for miss in (1, 4):
            hand = hand_of(2, [1], miss=miss)
            hand.look_at(3, 1, letter_of(3, [(1, 0, 0)]))
            rows = [hand.settle(turn, {1: 6}) for turn in range(3, 3 + miss + 3)]
            gone = [("way", 3 + miss + 1, 2, 1, None, None)]
            self.assertEqual(rows, [[("way", 3, 2, 1, 1, 6)]] + [[]] * miss + [gone] + [[]])

    def test_a_line_that_was_never_there(self):
        hand = hand_of(2, [1])
        hand.look_at(0, 1, letter_of(0, [(1, 0, 0)]))
        self.assertEqual(hand.settle(0, {1: None}), [])
        self.assertEqual(hand.settle(1, {1: 8}), [("way", 1, 2, 1, 1, 8)])

    def test_a_neighbour_that_was_never_heard_has_no_price(self):
        hand = hand_of(2, [1, 3])
        hand.look_at(0, 1, letter_of(0, [(1, 0, 0)]))
        hand.settle(0, {1: 8, 3: 2})
        hand.ways.heard(3, [(1, 1, 0)])
        self.assertEqual(hand.settle(1, {1: 8, 3: 2}), [])

    def generations(self, raise_each, turns):
        hand = hand_of(2, [1], raise_each=raise_each)
        told = []
        for turn in turns:
            self.assertEqual(hand.settle(turn, {1: 1}), [])
            told.append(hand.ways.mark_of(2))
        return told

    def test_the_own_generation_is_raised_at_multiples_above_0(self):
        self.assertEqual(self.generations(1, range(4)), [(0, 0), (1, 0), (2, 0), (3, 0)])
        self.assertEqual([mark[0] for mark in self.generations(3, range(8))], [0, 0, 0, 1, 1, 1, 2, 2])
        self.assertEqual([mark[0] for mark in self.generations(1000, (0, 999, 1000, 1001, 2000))], [0, 0, 1, 1, 2])

    def test_the_prices_handed_in_stay(self):
        hand = hand_of(2, [1])
        prices = {1: 4}
        hand.settle(0, prices)
        self.assertEqual(prices, {1: 4})


class TestArrived(unittest.TestCase):
    def test_on(self):
        hand = joined(2, [1, 3])
        arrive(hand, 1, piece(1, 4, 0, count=3), piece(3, 4, 0, count=1), (1, 4, 2, ("got", 7)))
        self.assertEqual(hand.work(1, []), [])
        keys, parcels = waiting(hand, 1)
        self.assertEqual(keys, {(4, 1, "piece"): 1, (4, 1, "got"): 1})
        self.assertEqual(parcels, [piece(1, 4, 0, count=2), (1, 4, 1, ("got", 7))])
        self.assertEqual(waiting(hand, 3), ({(4, 3, "piece"): 1}, [piece(3, 4, 0, count=0)]))

    def test_keys_of_all_bodies(self):
        hand = joined(2, [1])
        bodies = [("piece", 3, END), ("got", 3), ("ask", "a", 1), ("told", "a", None, 1)]
        arrive(hand, 1, *[(1, 4, 5, body) for body in bodies], *[(1, 3, 5, body) for body in bodies])
        hand.work(1, [])
        keys, parcels = waiting(hand, 1)
        self.assertEqual(list(keys), [(source, 1, body[0]) for source in (4, 3) for body in bodies])
        self.assertEqual(parcels, [(1, source, 4, body) for source in (4, 3) for body in bodies])

    def test_on_to_the_next_hand(self):
        hand = joined(2, [1, 3])
        hand.look_at(1, 3, letter_of(1, [(4, 0, 5)]))
        hand.settle(1, {1: 1, 3: 1})
        arrive(hand, 1, piece(4, 0, 0))
        self.assertEqual(hand.work(1, []), [])
        self.assertEqual(waiting(hand, 1), ({}, []))
        self.assertEqual(waiting(hand, 3), ({(0, 4, "piece"): 1}, [piece(4, 0, 0, count=8)]))

    def test_gone(self):
        hand = joined(2, [1])
        parcels = [piece(4, 1, 0), piece(1, 4, 0, count=0), piece(4, 1, 0, count=0), piece(3, 1, 0, count=1)]
        arrive(hand, 1, *parcels)
        words = ["none", "count", "count", "none"]
        wanted = [("gone", 1, 2, parcel, word) for parcel, word in zip(parcels, words)]
        self.assertEqual(hand.work(1, []), wanted)
        self.assertEqual(waiting(hand, 1), ({}, []))

    def test_a_full_gate(self):
        for places in (1, 3):
            hand = joined(2, [1, 3], places=places)
            parcels = [piece(1, 4, place) for place in range(places + 2)]
            arrive(hand, 1, *parcels, piece(1, 0, 0), (1, 4, 9, ("got", 0)), piece(3, 4, 0))
            # They are told as they were handled: with the count that they came with.
            wanted = [("gone", 1, 2, parcel, "full") for parcel in parcels[places:]]
            self.assertEqual(hand.work(1, []), wanted)
            keys = {(4, 1, "piece"): places, (0, 1, "piece"): 1, (4, 1, "got"): 1}
            self.assertEqual(waiting(hand, 1)[0], keys)
            self.assertEqual(waiting(hand, 3)[0], {(4, 3, "piece"): 1})

    def test_the_same_parcel_waits_once(self):
        hand = joined(2, [1], places=1)
        arrive(hand, 1, piece(1, 4, 0), piece(1, 4, 0))
        self.assertEqual(hand.work(1, []), [])
        self.assertEqual(waiting(hand, 1), ({(4, 1, "piece"): 1}, [piece(1, 4, 0, count=8)]))

    def test_handled_once_in_the_order_of_coming(self):
        hand = hand_of(2, [1, 3])
        parcels = [(4, source, 3, ("got", number)) for source, number in ((1, 0), (0, 1), (3, 2), (1, 3))]
        hand.look_at(1, 3, letter_of(0, [], enumerate(parcels[:2])))
        hand.look_at(1, 1, letter_of(0, [], enumerate(parcels[2:3])))
        hand.look_at(1, 3, letter_of(1, [], enumerate(parcels[:2] + parcels[3:])))
        self.assertEqual(hand.work(1, []), [("gone", 1, 2, parcel, "none") for parcel in parcels])
        self.assertEqual(hand.work(2, []), [])

    def test_here_whatever_the_count(self):
        for count in (0, 5):
            hand = joined(2, [1])
            parcel = piece(2, 4, 3, count=count)
            arrive(hand, 1, parcel)
            self.assertEqual(hand.work(1, [])[0], ("here", 1, 2, parcel))


class TestPieces(unittest.TestCase):
    def test_a_piece_is_read_and_answered(self):
        hand = joined(2, [1])
        parcel = piece(2, 1, 0)
        arrive(hand, 1, parcel)
        self.assertEqual(hand.work(1, []), [("here", 1, 2, parcel), ("read", 1, 2, 1, (BEGIN,))])
        self.assertEqual(waiting(hand, 1), ({(2, 1, "got"): 1}, [(1, 2, 8, ("got", 1))]))
        self.assertEqual(hand.work(2, []), [])
        self.assertEqual(waiting(hand, 1), ({}, []))

    def test_several_are_read_together_and_answered_once(self):
        hand = joined(2, [1])
        parcels = [piece(2, 1, 1, signs("a")), piece(2, 1, 0), piece(2, 1, 3, END), piece(2, 1, 1, signs("a"))]
        arrive(hand, 1, *parcels)
        rows = [("here", 1, 2, parcel) for parcel in parcels]
        self.assertEqual(hand.work(1, []), rows + [("read", 1, 2, 1, (BEGIN, signs("a")))])
        self.assertEqual(waiting(hand, 1)[1], [(1, 2, 8, ("got", 2))])
        arrive(hand, 2, piece(2, 1, 2, signs("b")))
        self.assertEqual(hand.work(2, [])[1:], [("read", 2, 2, 1, (signs("b"), END))])
        self.assertEqual(waiting(hand, 1)[1], [(1, 2, 8, ("got", 4))])

    def test_what_is_not_new_is_answered_again_and_not_read(self):
        hand = joined(2, [1])
        arrive(hand, 1, piece(2, 1, 0))
        hand.work(1, [])
        waiting(hand, 1)
        for turn, place in ((2, 0), (3, 99)):
            arrive(hand, turn, piece(2, 1, place))
            self.assertEqual(hand.work(turn, []), [("here", turn, 2, piece(2, 1, place))])
            self.assertEqual(waiting(hand, 1)[1], [(1, 2, 8, ("got", 1))])

    def test_the_measures_window(self):
        for window in (1, 3):
            hand = joined(2, [1], window=window)
            arrive(hand, 1, piece(2, 1, window), *[piece(2, 1, place) for place in range(window)])
            self.assertEqual(hand.work(1, [])[-1], ("read", 1, 2, 1, (BEGIN,) * window))
            self.assertEqual(waiting(hand, 1)[1], [(1, 2, 8, ("got", window))])

    def test_sources_are_apart_and_rise(self):
        hand = joined(2, [1, 3])
        parcels = [piece(2, 3, 0), piece(2, 1, 1, END), piece(2, 4, 0), piece(2, 0, 0)]
        arrive(hand, 1, *parcels)
        here = [("here", 1, 2, parcel) for parcel in parcels]
        gone = [("gone", 1, 2, (goal, 2, 9, ("got", 1)), "none") for goal in (0, 4)]
        reads = [("read", 1, 2, source, (BEGIN,)) for source in (0, 3, 4)]
        self.assertEqual(hand.work(1, []), here + [reads[0], gone[0], reads[1], reads[2], gone[1]])
        self.assertEqual(waiting(hand, 1)[1], [(1, 2, 8, ("got", 0))])
        self.assertEqual(waiting(hand, 3)[1], [(3, 2, 8, ("got", 1))])

    def test_an_answer_that_is_gone_is_owed_no_more(self):
        hand = joined(2, [1])
        arrive(hand, 1, piece(2, 4, 0))
        self.assertEqual(hand.work(1, [])[-1], ("gone", 1, 2, (4, 2, 9, ("got", 1)), "none"))
        self.assertEqual(hand.work(2, []), [])

    def test_an_answer_at_a_full_gate(self):
        hand = joined(2, [1], places=1)
        for turn in (1, 2):
            arrive(hand, turn, piece(2, 1, turn - 1))
            rows = hand.work(turn, [])
        self.assertEqual(rows[-1], ("gone", 2, 2, (1, 2, 9, ("got", 2)), "full"))
        self.assertEqual(waiting(hand, 1)[1], [(1, 2, 8, ("got", 1))])


class TestStreams(unittest.TestCase):
    def test_one_piece_of_each_stream_in_each_turn(self):
        hand = joined(2, [1, 3])
        for goal in (3, 1):
            for thing in (BEGIN, signs("a"), END):
                hand.tellers[goal].put(thing)
        for turn, thing in enumerate((BEGIN, signs("a"), END)):
            self.assertEqual(hand.work(turn, []), [])
            for goal in (1, 3):
                wanted = ({(2, goal, "piece"): 1}, [piece(goal, 2, turn, thing, 8)])
                self.assertEqual(waiting(hand, goal), wanted)
        self.assertEqual(hand.work(3, []), [])
        self.assertEqual(waiting(hand, 1), ({}, []))

    def test_by_goals_rising(self):
        hand = hand_of(2, [1])
        for goal in (4, 0, 3, 1):
            hand.tellers[goal].put(BEGIN)
        wanted = [("gone", 0, 2, piece(goal, 2, 0), "none") for goal in (0, 1, 3, 4)]
        self.assertEqual(hand.work(0, []), wanted)

    def test_the_measures_window_wait_and_count(self):
        hand = hand_of(2, [1], window=2, wait=3, count=7)
        for thing in (BEGIN, signs("a"), END):
            hand.tellers[1].put(thing)
        places = []
        for turn in range(8):
            for row in hand.work(turn, []):
                self.assertEqual((row[0], row[3][:3]), ("gone", (1, 2, 7)))
                places.append((turn, row[3][3][1]))
        self.assertEqual(places, [(0, 0), (1, 1), (3, 0), (6, 0)])

    def test_a_count_of_0(self):
        hand = joined(2, [1], count=0)
        hand.tellers[1].put(BEGIN)
        self.assertEqual(hand.work(0, []), [("gone", 0, 2, piece(1, 2, 0, count=0), "count")])

    def test_a_piece_at_a_full_gate(self):
        hand = joined(2, [1], places=1)
        hand.tellers[1].put(BEGIN)
        hand.tellers[1].put(END)
        self.assertEqual(hand.work(0, []), [])
        self.assertEqual(hand.work(1, []), [("gone", 1, 2, piece(1, 2, 1, END), "full")])

    def test_got_is_heard_by_the_teller_to_the_source(self):
        hand = joined(2, [1, 3], wait=2)
        for goal in (1, 3):
            hand.tellers[goal].put(BEGIN)
        hand.work(0, [])
        parcel = (2, 3, 4, ("got", 1))
        arrive(hand, 1, parcel)
        self.assertEqual(hand.work(1, []), [("here", 1, 2, parcel)])
        self.assertEqual([hand.tellers[goal].base for goal in (1, 3)], [0, 1])

    def test_got_is_heard_ahead_of_the_streams_going(self):
        hand = joined(2, [1], window=1)
        hand.tellers[1].put(BEGIN)
        hand.tellers[1].put(END)
        hand.work(0, [])
        waiting(hand, 1)
        arrive(hand, 1, (2, 1, 4, ("got", 1)))
        hand.work(1, [])
        self.assertEqual(waiting(hand, 1)[1], [piece(1, 2, 1, END, 8)])


class TestNames(unittest.TestCase):
    def test_an_ask_goes_to_hand_0(self):
        hand = joined(2, [0, 1])
        self.assertEqual(hand.work(3, ["b", "a"]), [])
        wanted = [(0, 2, 8, ("ask", "b", 3)), (0, 2, 8, ("ask", "a", 3))]
        self.assertEqual(waiting(hand, 0), ({(2, 0, "ask"): 2}, wanted))
        self.assertEqual(hand.work(4, []), [])
        self.assertEqual(waiting(hand, 0), ({}, []))

    def test_an_ask_that_is_gone(self):
        hand = joined(2, [1])
        wanted = [("gone", 3, 2, (0, 2, 9, ("ask", name, 3)), "none") for name in ("b", "a", "b")]
        self.assertEqual(hand.work(3, ["b", "a", "b"]), wanted)

    def test_an_ask_is_answered_by_what_the_book_tells(self):
        hand = joined(0, [1, 2])
        hand.book.bind("a", 2, 0)
        asks = [(0, 2, 5, ("ask", "a", 4)), (0, 1, 0, ("ask", "b", 7)), (0, 2, 5, ("ask", "b", 4))]
        arrive(hand, 8, *asks)
        self.assertEqual(hand.work(8, []), [("here", 8, 0, parcel) for parcel in asks])
        self.assertEqual(waiting(hand, 1), ({(0, 1, "told"): 1}, [(1, 0, 8, ("told", "b", None, 7))]))
        wanted = [(2, 0, 8, ("told", "a", 2, 4)), (2, 0, 8, ("told", "b", None, 4))]
        self.assertEqual(waiting(hand, 2), ({(0, 2, "told"): 2}, wanted))

    def test_it_is_answered_at_once(self):
        hand = joined(0, [1])
        asks = [(0, 4, 5, ("ask", "a", 4)), (0, 3, 5, ("ask", "a", 4))]
        arrive(hand, 8, *asks)
        told = [("gone", 8, 0, (source, 0, 9, ("told", "a", None, 4)), "none") for source in (4, 3)]
        here = [("here", 8, 0, ask) for ask in asks]
        self.assertEqual(hand.work(8, []), [here[0], told[0], here[1], told[1]])

    def test_what_is_told_is_put_near(self):
        hand = joined(2, [0])
        parcels = [(2, 0, 5, ("told", "a", 4, 3)), (2, 0, 5, ("told", "a", 1, 2)), (2, 0, 5, ("told", "b", None, 3))]
        arrive(hand, 6, *parcels)
        self.assertEqual(hand.work(6, []), [("here", 6, 2, parcel) for parcel in parcels])
        self.assertEqual([hand.near.find("a", turn) for turn in (6, 23, 24)], [4, 4, None])
        self.assertIsNone(hand.near.find("b", 6))

    def test_hand_0_puts_near_what_its_book_tells(self):
        hand = joined(0, [1])
        hand.book.bind("a", 3, 2)
        self.assertEqual(hand.work(5, ["a", "b"]), [])
        self.assertEqual(waiting(hand, 1), ({}, []))
        self.assertEqual([hand.near.find("a", turn) for turn in (5, 25, 26)], [3, 3, None])
        self.assertIsNone(hand.near.find("b", 5))
        hand.book.free("a", 6)
        hand.work(6, [])
        self.assertEqual(hand.near.find("a", 6), 3)
        hand.work(7, ["a"])
        self.assertIsNone(hand.near.find("a", 7))

    def test_the_book_is_at_hand_0_alone(self):
        self.assertEqual([hand_of(me, []).book is None for me in range(3)], [False, True, True])

    def test_the_names_handed_in_stay(self):
        names = ["a", "b"]
        joined(2, [0]).work(0, names)
        self.assertEqual(names, ["a", "b"])


class TestWork(unittest.TestCase):
    def test_the_order(self):
        hand = hand_of(2, [1])
        hand.tellers[4].put(BEGIN)
        hand.tellers[0].put(BEGIN)
        parcels = [piece(2, 3, 0), (4, 3, 0, ("got", 0)), piece(2, 1, 0)]
        arrive(hand, 6, *parcels)
        self.assertEqual(hand.work(6, ["a"]), [
            ("here", 6, 2, parcels[0]),
            ("gone", 6, 2, parcels[1], "count"),
            ("here", 6, 2, parcels[2]),
            ("gone", 6, 2, piece(0, 2, 0), "none"),
            ("gone", 6, 2, piece(4, 2, 0), "none"),
            ("read", 6, 2, 1, (BEGIN,)),
            ("gone", 6, 2, (1, 2, 9, ("got", 1)), "none"),
            ("read", 6, 2, 3, (BEGIN,)),
            ("gone", 6, 2, (3, 2, 9, ("got", 1)), "none"),
            ("gone", 6, 2, (0, 2, 9, ("ask", "a", 6)), "none"),
        ])

    def test_nothing_to_do(self):
        self.assertEqual(hand_of(2, [1]).work(0, []), [])
        self.assertEqual(hand_of(0, []).work(0, []), [])


class TestSend(unittest.TestCase):
    def test_a_letter_to_each_neighbour_rising(self):
        hand = hand_of(2, [4, 1, 3])
        letters, rows = hand.send(0, [3, 4, 1])
        self.assertEqual(letters, [(neighbour, (0, [(2, 0, 0)], (), 0)) for neighbour in (1, 3, 4)])
        self.assertEqual(rows, [("sent", 0, 2, neighbour, (), 0) for neighbour in (1, 3, 4)])

    def test_stamp_reports_parcels_and_got(self):
        hand = joined(2, [1, 3], raise_each=7)
        hand.look_at(7, 1, letter_of(6, [(1, 1, 0), (4, 0, 6)]))
        hand.settle(7, {1: 2, 3: 5})
        arrive(hand, 7, piece(3, 1, 0), piece(3, 4, 0), piece(1, 4, 0), piece(4, 1, 0))
        hand.work(7, [])
        letters, rows = hand.send(7, [1, 3])
        # Hand 3 was heard last in turn 0, so there is no way to it, and its parcels were gone.
        reports = [(1, 1, 2), (2, 1, 0), (3, 0, None), (4, 0, 8)]
        pairs = ((0, piece(1, 4, 0, count=8)), (1, piece(4, 1, 0, count=8)))
        self.assertEqual(letters, [(1, (7, reports, pairs, 4)), (3, (7, reports, (), 0))])
        self.assertEqual(rows, [("sent", 7, 2, 1, pairs, 4), ("sent", 7, 2, 3, (), 0)])

    def test_the_gate_gives_out_as_many_as_the_link_takes(self):
        for room in (1, 3):
            hand = joined(2, [1], room=room)
            arrive(hand, 1, *[piece(1, 4, place) for place in range(4)])
            hand.work(1, [])
            pairs = tuple((place, piece(1, 4, place, count=8)) for place in range(4))
            self.assertEqual(hand.send(1, [1])[1], [("sent", 1, 2, 1, pairs[:room], 4)])
            self.assertEqual(hand.sides[1].gate.waits((4, 1, "piece")), 4 - room)
            # What was not told as got goes in each letter, and no more is taken.
            self.assertEqual(hand.send(2, [1])[1], [("sent", 2, 2, 1, pairs[:room], 4)])
            hand.look_at(3, 1, letter_of(3, got=1))
            self.assertEqual(hand.send(3, [1])[1], [("sent", 3, 2, 1, pairs[1:room + 1], 4)])

    def test_nothing_goes_where_the_line_is_not_there(self):
        hand = joined(2, [1, 3])
        arrive(hand, 1, piece(1, 4, 0), piece(3, 4, 0))
        hand.work(1, [])
        to_1 = ((0, piece(1, 4, 0, count=8)),)
        to_3 = ((0, piece(3, 4, 0, count=8)),)
        self.assertEqual(hand.send(1, []), ([], []))
        letters, rows = hand.send(2, [3])
        self.assertEqual([letter[0] for letter in letters], [3])
        self.assertEqual(rows, [("sent", 2, 2, 3, to_3, 0)])
        self.assertEqual(hand.send(3, [1, 3])[1], [("sent", 3, 2, 1, to_1, 2), ("sent", 3, 2, 3, to_3, 0)])

    def test_letters_told_are_the_askers_own(self):
        hand = joined(2, [1, 3])
        letters, rows = hand.send(0, [1, 3])
        letters[0][1][1].append("x")
        self.assertEqual(letters[1][1][1], [(1, 0, 1), (2, 0, 0), (3, 0, 1)])
        letters.clear()
        rows.clear()
        lines = [1]
        self.assertEqual(hand.send(1, lines)[0], [(1, (1, [(1, 0, 1), (2, 0, 0), (3, 0, 1)], (), 0))])
        self.assertEqual(lines, [1])


class TestTogether(unittest.TestCase):
    """Hands joined in a ring by bad roads, each of which does its steps in each turn."""

    hands = 4

    def roads_of(self, chance):
        roads = {}
        for hand in range(self.hands):
            for neighbour in ((hand + 1) % self.hands, (hand - 1) % self.hands):
                deeds = [chance.choice([(), (1,), (3,), (2, 1), (3, 3, 1)]) for _ in range(5)] + [(2,)]
                roads[hand, neighbour] = Road(deeds, 3)
        return roads

    def run_net(self, chance, turns, put):
        """The hands, and what each read by (hand, source)."""
        measures = measures_of(hands=self.hands, miss=20, raise_each=60, room=2, places=8, wait=30)
        roads = self.roads_of(chance)
        sides = [[other for other in range(self.hands) if (hand, other) in roads] for hand in range(self.hands)]
        hands = [Hand(me, measures, sides[me]) for me in range(self.hands)]
        hands[0].book.bind("a", 2, 0)
        for (source, goal), things in put.items():
            for thing in things:
                hands[source].tellers[goal].put(thing)
        read = {}
        for turn in range(turns):
            for hand, neighbour in itertools.product(range(self.hands), repeat=2):
                for letter in roads[neighbour, hand].come(turn) if (neighbour, hand) in roads else []:
                    hands[hand].look_at(turn, neighbour, letter)
            for hand in hands:
                hand.settle(turn, {neighbour: 1 + (hand.me + neighbour) // 3 for neighbour in sides[hand.me]})
            for hand in hands:
                for row in hand.work(turn, ["a"] if turn % 40 == hand.me else []):
                    if row[0] == "read":
                        read.setdefault((row[2], row[3]), []).extend(row[4])
                for neighbour, letter in hand.send(turn, sides[hand.me])[0]:
                    self.assertLessEqual(len(letter[2]), 2)
                    roads[hand.me, neighbour].send(turn, letter)
            for (hand, source), things in read.items():
                self.assertEqual(things, put[source, hand][:len(things)])
        return hands, read

    def test_streams_are_read_and_names_found(self):
        for seed in range(4):
            chance = random.Random(seed)
            put = {
                (0, 2): [BEGIN, *[signs(str(number)) for number in range(12)], END],
                (3, 1): [BEGIN, signs("x"), END, BEGIN, signs("y")],
                (2, 0): [BEGIN, END],
            }
            hands, read = self.run_net(chance, 700, put)
            self.assertEqual(read, {(goal, source): things for (source, goal), things in put.items()})
            for (source, goal), things in put.items():
                teller = hands[source].tellers[goal]
                self.assertEqual((teller.base, teller.many()), (len(things), len(things)))
            self.assertEqual([hand.near.find("a", 690) for hand in hands], [2] * 4)
            self.assertEqual([hand.ways.price_of(0) for hand in hands], [0, 1, 3, 2])

    def test_a_watch_refuses_what_is_past(self):
        hand = hand_of(2, [1])
        hand.look_at(4, 1, letter_of(3))
        with self.assertRaises(RoadError):
            hand.look_at(3, 1, letter_of(9, [], [(0, (2, 1, 0, ("got", 0)))]))
        self.assertEqual(hand.work(4, []), [])


if __name__ == "__main__":
    unittest.main()
