"""Stage 1: roads, promises 1.1 to 1.5, and 0.2 where it speaks of them."""

import itertools
import unittest

from roadnet.errors import BadRoad
from roadnet.roads import Road, fairness
from tests.cases import PastCase

# Lists of deeds for a lag of 4, each with a delay somewhere.
FAIR_DEEDS = (
    [],
    [(1,)],
    [(4,)],
    [(), (1,)],
    [(4,), ()],
    [(4,), (), (), (1,)],
    [(), (2, 1), (), (), (4, 4, 4), ()],
    [(3, 1, 2), (), (), (), (1,), (4,)],
    [(1,)] + [()] * 7,
    [()] * 59 + [(4,)],
)


class TestMaking(PastCase):
    def test_good_ones(self):
        good = (
            ([], 1),
            ([], 32),
            ([()], 1),
            ([(1,)], 1),
            ([(1, 1, 1)], 1),
            ([(32, 1, 32), ()], 32),
            ([(1,)] * 60, 5),
            ([(1, 5), (), (5, 1, 3)], 5),
        )
        for deeds, lag in good:
            with self.subTest(deeds=deeds, lag=lag):
                Road(deeds, lag)

    def test_bad_lags(self):
        for lag in (0, -1, 33, 1000, True, False, None, 2.0, "2", (2,)):
            for deeds in ([], [(1,)]):
                with self.subTest(lag=lag, deeds=deeds):
                    self.assertRaises(BadRoad, Road, deeds, lag)

    def test_too_many_deeds(self):
        for deeds in ([(1,)] * 61, [()] * 61, [()] * 500):
            self.assertRaises(BadRoad, Road, deeds, 4)

    def test_deeds_that_are_no_list(self):
        for deeds in ((), ((1,),), None, 0, "", "a", {}, {(1,): 1}):
            with self.subTest(deeds=deeds):
                self.assertRaises(BadRoad, Road, deeds, 4)

    def test_bad_deeds_at_every_place(self):
        bad = (
            [1], [], 1, None, "", "1", {}, True,
            (1, 1, 1, 1), (0,), (-1,), (5,), (1, 0), (1, 2, 5),
            (True,), (1, False), (1.0,), ("1",), (None,), ((1,),),
        )
        for deed in bad:
            for deeds in ([deed], [deed, (1,)], [(1,), (), deed]):
                with self.subTest(deeds=deeds):
                    self.assertRaises(BadRoad, Road, deeds, 4)

    def test_a_delay_is_held_against_the_own_lag(self):
        for lag in range(1, 33):
            Road([(1, lag)], lag)
            self.assertRaises(BadRoad, Road, [(1, lag + 1)], lag)

    def test_the_list_changed_behind_changes_nothing(self):
        deeds = [(1,), (2,)]
        road = Road(deeds, 2)
        deeds[0] = ()
        deeds.append((1, 1, 1))
        for turn in range(4):
            road.send(turn, turn)
        self.assertEqual(road.come(9), [0, 1, 2, 3])
        deeds.clear()
        road.send(9, 9)
        self.assertEqual(road.come(10), [])
        self.assertEqual(road.come(11), [9])

    def test_what_is_handed_in_stays(self):
        deeds = [(1,), (), (2, 1)]
        road = Road(deeds, 2)
        for turn in range(6):
            road.send(turn, "x")
            road.come(turn)
        self.assertEqual(deeds, [(1,), (), (2, 1)])


class TestSending(PastCase):
    def test_it_gives_nothing_back(self):
        for deeds in ([], [()], [(1, 2, 3)]):
            self.assertIsNone(Road(deeds, 3).send(0, "x"))

    def test_a_road_without_deeds_has_the_one_delay_1(self):
        for lag in (1, 32):
            road = Road([], lag)
            road.send(7, "x")
            self.assertEqual(road.come(7), [])
            self.assertEqual(road.come(8), ["x"])
            self.assertEqual(road.come(100), [])

    def test_the_deed_is_by_the_turn_not_by_the_count(self):
        deeds = [(1,), (2,), (3,), (), (1, 3), (5, 5, 2)]
        for turn in range(20):
            with self.subTest(turn=turn):
                road = Road(deeds, 5)
                road.send(turn, "x")
                came = [u for u in range(turn, turn + 8) for _ in road.come(u)]
                self.assertEqual(came, sorted(turn + d for d in deeds[turn % 6]))

    def test_turns_may_leap(self):
        road = Road([(1,), (), (2, 2)], 2)
        for turn in (0, 3, 4, 11, 1000, 10 ** 12 + 1):
            road.send(turn, turn)
        self.assertEqual(road.come(10 ** 12 + 3), [0, 3, 11, 11] + [10 ** 12 + 1] * 2)

    def test_any_letter_is_carried(self):
        thing = object()
        letters = [None, True, 0, -5, "", "text", (), (1, ("a", None)), [], [1, [2]], {"a": [1]}, thing]
        road = Road([], 1)
        for turn, letter in enumerate(letters):
            road.send(turn, letter)
        self.assertEqual(road.come(len(letters)), letters)

    def test_a_turn_that_does_not_rise_is_refused(self):
        road = Road([], 1)
        road.send(5, "a")
        for turn in (5, 4, 0, -1):
            with self.subTest(turn=turn):
                self.refused_past(5, road.send, turn, "b")
        road.send(6, "c")
        self.refused_past(6, road.send, 6, "d")
        self.assertEqual(road.come(50), ["a", "c"])

    def test_turn_0_is_a_last_turn_too(self):
        road = Road([], 1)
        road.send(0, "a")
        self.refused_past(0, road.send, 0, "b")
        self.refused_past(0, road.send, -1, "b")
        self.assertEqual(road.come(9), ["a"])

    def test_a_lost_letter_was_sent_too(self):
        road = Road([()], 1)
        road.send(3, "a")
        self.refused_past(3, road.send, 3, "b")

    def test_a_refused_sending_moves_no_turn(self):
        road = Road([], 1)
        road.send(5, "a")
        self.refused_past(5, road.send, 2, "b")
        self.refused_past(5, road.send, 3, "b")
        self.refused_past(5, road.send, 5, "b")

    def test_asking_bounds_no_sending(self):
        road = Road([], 1)
        self.assertEqual(road.come(10), [])
        road.send(2, "a")
        self.assertEqual(road.come(10), ["a"])

    def test_a_letter_changed_behind_comes_as_it_was_sent(self):
        road = Road([(1, 2)], 2)
        letter = ["a", ("b", ["c"])]
        road.send(0, letter)
        letter.append("d")
        letter[1][1].append("d")
        self.assertEqual(road.come(2), [["a", ("b", ["c"])]] * 2)
        self.assertEqual(letter, ["a", ("b", ["c", "d"]), "d"])


class TestComing(PastCase):
    def test_nothing_was_sent(self):
        road = Road([(1,)], 1)
        self.assertEqual(road.come(0), [])
        self.assertEqual(road.come(40), [])

    def test_in_its_turn_once_and_no_more(self):
        road = Road([(2,)], 3)
        road.send(0, "x")
        told = [road.come(turn) for turn in (0, 1, 2, 2, 3, 3)]
        self.assertEqual(told, [[], [], ["x"], [], [], []])

    def test_what_came_ahead_is_told_too(self):
        road = Road([(1,), (2,), (3,)], 3)
        for turn in range(3):
            road.send(turn, turn)
        self.assertEqual(road.come(4), [0, 1])
        self.assertEqual(road.come(5), [2])

    def test_by_the_turns_of_sending_not_of_coming(self):
        road = Road([(4,), (1,)], 4)
        road.send(0, "late")
        road.send(1, "soon")
        self.assertEqual(road.come(4), ["late", "soon"])

    def test_who_overtakes_is_told_first_where_asked_in_each_turn(self):
        road = Road([(4,), (1,)], 4)
        road.send(0, "late")
        road.send(1, "soon")
        self.assertEqual([road.come(turn) for turn in range(5)], [[], [], ["soon"], [], ["late"]])

    def test_each_as_often_as_it_comes(self):
        road = Road([(2, 1, 2)], 2)
        road.send(0, "x")
        self.assertEqual(road.come(1), ["x"])
        self.assertEqual(road.come(2), ["x", "x"])
        self.assertEqual(road.come(3), [])

    def test_sendings_stand_together_whatever_their_delays(self):
        road = Road([(3, 1), (1, 2)], 3)
        road.send(0, "a")
        road.send(1, "b")
        self.assertEqual(road.come(3), ["a", "a", "b", "b"])

    def test_what_is_sent_later_in_a_turn_asked_already_is_told_when_asked_again(self):
        road = Road([], 1)
        self.assertEqual(road.come(1), [])
        road.send(0, "a")
        self.assertEqual(road.come(1), ["a"])
        self.assertEqual(road.come(1), [])

    def test_a_lesser_turn_is_refused_and_tells_nothing_away(self):
        road = Road([(1,), (3,)], 3)
        road.send(0, "a")
        road.send(1, "b")
        self.assertEqual(road.come(3), ["a"])
        road.send(2, "c")
        for turn in (2, 0, -7):
            with self.subTest(turn=turn):
                self.refused_past(3, road.come, turn)
        self.assertEqual(road.come(3), ["c"])
        self.refused_past(3, road.come, 2)
        self.assertEqual(road.come(4), ["b"])

    def test_a_refused_asking_tells_away_nothing_that_came_ahead_of_it(self):
        road = Road([], 1)
        self.assertEqual(road.come(9), [])
        road.send(2, "a")
        self.refused_past(9, road.come, 5)
        self.assertEqual(road.come(9), ["a"])

    def test_a_refused_asking_moves_no_turn(self):
        road = Road([], 1)
        road.come(0)
        self.refused_past(0, road.come, -1)
        self.refused_past(0, road.come, -1)
        self.assertEqual(road.come(0), [])

    def test_a_list_told_and_changed_changes_nothing(self):
        road = Road([(1, 2)], 2)
        road.send(0, ["x"])
        first = road.come(1)
        first[0].append("changed")
        first.append("more")
        second = road.come(2)
        self.assertEqual(second, [["x"]])
        second.append("more")
        empty = road.come(2)
        self.assertEqual(empty, [])
        empty.append("more")
        self.assertEqual(road.come(3), [])

    def test_against_the_words_of_the_promise(self):
        deeds = [(3, 1, 3), (), (2,), (4, 1), (1,)]
        sendings = [0, 1, 2, 5, 6, 8, 9, 10, 13, 14, 18]
        askings = [0, 1, 1, 3, 4, 6, 6, 7, 10, 12, 13, 14, 16, 17, 19, 30]
        road = Road(deeds, 4)
        for turn in sendings:
            road.send(turn, turn)
        comings = [(t, t + d) for t in sendings for d in deeds[t % 5]]
        last = -1
        for turn in askings:
            self.assertEqual(road.come(turn), [t for t, u in comings if last < u <= turn])
            last = turn


class TestFairness(PastCase):
    def test_ordinary_ones(self):
        cases = (
            ([], 1),
            ([(1,)], 1),
            ([(1, 2, 3)], 1),
            ([(1,), (2,)], 1),
            ([(1,), ()], 2),
            ([(), (1,)], 2),
            ([(), (), (1,)], 3),
            ([(1,), (), ()], 3),
            ([(1,), (), (), (1,)], 3),
            ([(), (1,), ()], 3),
            ([(), (), (1,), (), (1,), ()], 4),
            ([(), (1,), (), (), (1,)], 3),
            ([()] * 59 + [(1,)], 60),
            ([(1,)] + [()] * 59, 60),
        )
        for deeds, fair in cases:
            with self.subTest(deeds=deeds):
                self.assertEqual(fairness(deeds), fair)

    def test_none_where_no_deed_has_a_delay(self):
        for many in (1, 2, 60):
            self.assertIsNone(fairness([()] * many))

    def test_against_the_words_of_the_promise(self):
        for many in range(1, 8):
            for deeds in itertools.product([(), (1,)], repeat=many):
                if any(deeds):
                    self.assertEqual(fairness(list(deeds)), self.least_number(deeds))

    def least_number(self, deeds):
        many = len(deeds)
        for number in itertools.count(1):
            if all(any(deeds[(turn + k) % many] for k in range(number)) for turn in range(many)):
                return number

    def test_the_list_stays(self):
        deeds = [(), (1, 2), ()]
        fairness(deeds)
        self.assertEqual(deeds, [(), (1, 2), ()])


class TestSo(PastCase):
    def comings(self, deeds, lag, turns):
        road = Road(deeds, lag)
        came = []
        for turn in range(turns):
            came.append(road.come(turn))
            road.send(turn, turn)
        return came

    def test_what_comes_was_sent_within_the_lag(self):
        for deeds in FAIR_DEEDS:
            for turn, letters in enumerate(self.comings(deeds, 4, 200)):
                for sent in letters:
                    with self.subTest(deeds=deeds, turn=turn):
                        self.assertTrue(turn - 4 <= sent <= turn - 1)

    def test_one_has_come_in_each_stretch(self):
        for deeds in FAIR_DEEDS:
            stretch = fairness(deeds) + 4 - 1
            came = self.comings(deeds, 4, 260)
            for turn in range(stretch, 260):
                with self.subTest(deeds=deeds, turn=turn):
                    self.assertTrue(any(came[turn - stretch + 1:turn + 1]))

    def test_both_bounds_are_met(self):
        came = self.comings([(4,)] + [()] * 7 + [(1,)], 4, 40)
        self.assertEqual(came[4], [0])
        self.assertEqual(came[9], [8])
        self.assertEqual(came[13], [9])


if __name__ == "__main__":
    unittest.main()
