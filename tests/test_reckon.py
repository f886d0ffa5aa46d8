"""Stage 9: what is reckoned ahead, promise 9.6, at numbers worked out by hand."""

import unittest

from roadnet.measures import Measures
from roadnet.reckon import crossing_turns, done_turn, keys_of, settled_turn, things_most

# With the fairness 2 a letter takes 5 turns at most; 4 keys make a crossing of 3 * (7 + 1) * 10 = 240 turns.
GOOD = {
    "hands": 4, "lag": 3, "miss": 5, "raise_each": 25, "count": 4,
    "room": 3, "places": 5, "window": 3, "wait": 240, "keep": 0,
}
WISHES = [(0, 0, "begin", 1), (1, 0, "put", (1, "a" * 9)), (2, 0, "end", 1), (2, 3, "ask", "inn")]


def measures_of(**others):
    return Measures(**{**GOOD, **others})


class TestSettled(unittest.TestCase):
    def test_worked_out_by_hand(self):
        self.assertEqual(settled_turn(measures_of(), 2, 100), 100 + 3 + 5 + 2 + 50 + 10 * 5)
        self.assertEqual(settled_turn(Measures(2, 1, 1, 1, 0, 1, 1, 1, 1, 0), 1, -1), -1 + 1 + 1 + 1 + 2 + 6 * 2)
        self.assertEqual(settled_turn(Measures(12, 32, 400, 1000, 60, 16, 16, 60, 10000, 10000), 60, 10000), 14884)

    def test_each_number_counts(self):
        at_first = settled_turn(measures_of(), 2, 0)
        self.assertEqual(settled_turn(measures_of(), 2, -1) - at_first, -1)
        self.assertEqual(settled_turn(measures_of(), 3, 0) - at_first, 1 + 10)
        self.assertEqual(settled_turn(measures_of(lag=4), 2, 0) - at_first, 1 + 10)
        self.assertEqual(settled_turn(measures_of(miss=6), 2, 0) - at_first, 1)
        self.assertEqual(settled_turn(measures_of(raise_each=26), 2, 0) - at_first, 2)
        self.assertEqual(settled_turn(measures_of(hands=5), 2, 0) - at_first, 10)

    def test_told_whatever_measures_bear_out(self):
        self.assertEqual(settled_turn(measures_of(miss=1, raise_each=1, count=0), 2, 0), 3 + 1 + 2 + 2 + 50)


class TestCrossing(unittest.TestCase):
    def test_worked_out_by_hand(self):
        self.assertEqual(crossing_turns(measures_of(), 2, 4), 3 * (7 + 1) * 2 * 5)
        self.assertEqual(crossing_turns(measures_of(), 2, 3), 3 * (5 + 1) * 2 * 5)
        self.assertEqual(crossing_turns(measures_of(room=16), 2, 3), 3 * (1 + 1) * 2 * 5)
        self.assertEqual(crossing_turns(measures_of(hands=2, lag=1, room=1, places=1), 1, 1), 1 * 2 * 2 * 2)

    def test_rounded_up(self):
        self.assertEqual([crossing_turns(measures_of(hands=2, room=4), 2, keys) for keys in range(1, 6)], [
            30, 40, 50, 60, 80,
        ])

    def test_no_keys_are_as_one(self):
        self.assertEqual(crossing_turns(measures_of(), 2, 0), crossing_turns(measures_of(), 2, 1))
        self.assertEqual(crossing_turns(measures_of(), 2, 0), 3 * (2 + 1) * 2 * 5)


class TestKeys(unittest.TestCase):
    def test_no_wishes(self):
        self.assertEqual(keys_of([]), 0)

    def test_two_for_each_stream_that_is_begun(self):
        self.assertEqual(keys_of([(0, 0, "begin", 1)]), 2)
        self.assertEqual(keys_of([(0, 0, "begin", 1), (0, 2, "begin", 1)]), 4)
        self.assertEqual(keys_of([(0, 0, "begin", 1), (0, 0, "begin", 2), (0, 1, "begin", 0)]), 6)

    def test_a_stream_that_is_begun_twice_counts_once(self):
        self.assertEqual(keys_of([(0, 0, "begin", 1), (0, 0, "begin", 1), (5, 0, "end", 1), (7, 0, "begin", 1)]), 2)

    def test_a_stream_that_no_wish_begins_counts_not(self):
        wishes = [(0, 0, "put", (1, "a")), (0, 1, "end", 0), (0, 0, "bind", "a"), (0, 0, "free", "a")]
        self.assertEqual(keys_of(wishes), 0)

    def test_two_for_each_hand_that_asks(self):
        self.assertEqual(keys_of([(0, 3, "ask", "inn")]), 2)
        self.assertEqual(keys_of([(0, 3, "ask", "inn"), (0, 3, "ask", "mill"), (9, 3, "ask", "inn")]), 2)
        self.assertEqual(keys_of([(0, 3, "ask", "inn"), (0, 2, "ask", "inn")]), 4)

    def test_hand_0_too(self):
        self.assertEqual(keys_of([(0, 0, "ask", "inn")]), 2)
        self.assertEqual(keys_of([(0, 0, "ask", "inn"), (0, 1, "ask", "inn"), (0, 0, "ask", "a")]), 4)

    def test_both_together(self):
        self.assertEqual(keys_of(WISHES), 4)


class TestThings(unittest.TestCase):
    def test_no_things(self):
        self.assertEqual(things_most([]), 0)
        self.assertEqual(things_most([(0, 0, "ask", "inn"), (0, 0, "bind", "inn"), (0, 0, "free", "inn")]), 0)

    def test_one_for_each_begin_and_end(self):
        self.assertEqual(things_most([(0, 0, "begin", 1)]), 1)
        self.assertEqual(things_most([(0, 0, "end", 1)]), 1)
        self.assertEqual(things_most([(0, 0, "begin", 1), (0, 0, "begin", 1), (0, 0, "end", 1)]), 3)

    def test_an_eighth_of_the_signs_of_each_text(self):
        for signs, things in ((1, 1), (7, 1), (8, 1), (9, 2), (16, 2), (17, 3), (39, 5), (40, 5)):
            self.assertEqual(things_most([(0, 0, "put", (1, "a" * signs))]), things)
        wishes = [(0, 0, "put", (1, text)) for text in ("a", "a", "a" * 9)]
        self.assertEqual(things_most(wishes), 4)

    def test_of_the_stream_that_has_the_most(self):
        wishes = [(0, hand, "begin", goal) for hand, goal in ((0, 1), (0, 2), (1, 0), (2, 1))]
        wishes.insert(3, (0, 1, "put", (0, "a")))
        self.assertEqual(things_most(wishes), 2)
        self.assertEqual(things_most(wishes + [(1, 0, "put", (2, "a" * 17))]), 4)
        self.assertEqual(things_most(wishes[::-1]), 2)


class TestDone(unittest.TestCase):
    def test_worked_out_by_hand(self):
        settled, each = 100 + 3 + 5 + 2 + 50 + 50, 3 + 240 + 4 * 240 + 4
        self.assertEqual(done_turn(measures_of(), 2, 100, WISHES), settled + 2 * 240 + 4 * each)

    def test_without_wishes(self):
        self.assertEqual(done_turn(measures_of(), 2, -1, []), -1 + 3 + 5 + 2 + 50 + 50 + 2 * 90)

    def test_none_just_where_a_condition_fails(self):
        good = done_turn(measures_of(), 2, 0, WISHES)
        self.assertIsNotNone(good)
        for name in ("miss", "raise_each", "count", "wait"):
            with self.subTest(name):
                self.assertIsNone(done_turn(measures_of(**{name: GOOD[name] - 1}), 2, 0, WISHES))
                self.assertIsNotNone(done_turn(measures_of(**{name: GOOD[name] + 1}), 2, 0, WISHES))
        self.assertIsNone(done_turn(measures_of(window=4), 2, 0, WISHES))
        self.assertIsNotNone(done_turn(measures_of(window=2), 2, 0, WISHES))

    def test_none_where_the_fairness_is_worse(self):
        self.assertIsNone(done_turn(measures_of(wait=10000), 3, 0, WISHES))
        self.assertIsNone(done_turn(measures_of(wait=10000, miss=6), 3, 0, WISHES))
        self.assertIsNone(done_turn(measures_of(wait=10000, raise_each=30), 3, 0, WISHES))
        self.assertIsNotNone(done_turn(measures_of(wait=10000, miss=6, raise_each=30), 3, 0, WISHES))

    def test_the_wait_is_held_to_the_crossing_of_the_keys_of_the_wishes(self):
        more = WISHES + [(0, 1, "begin", 2)]
        self.assertIsNone(done_turn(measures_of(), 2, 0, more))
        self.assertIsNone(done_turn(measures_of(wait=329), 2, 0, more))
        self.assertIsNotNone(done_turn(measures_of(wait=330), 2, 0, more))
        self.assertIsNone(done_turn(measures_of(wait=89), 2, 0, []))
        self.assertIsNotNone(done_turn(measures_of(wait=90), 2, 0, []))

    def test_what_is_handed_in_stays(self):
        wishes, measures = list(WISHES), measures_of()
        for _ in range(2):
            done_turn(measures, 2, 0, wishes)
        self.assertEqual([wishes, measures.numbers()], [WISHES, measures_of().numbers()])
