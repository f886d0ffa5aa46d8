"""Stage 6: carrying, promises 6.1 and 6.2, and 0.2 where it speaks of them."""

import itertools
import random
import unittest

from roadnet.carry import carried, handled
from roadnet.ways import Ways, better


class TestHandled(unittest.TestCase):
    def asked_of(self, me, parcel, hand):
        """What is told, and the goals for which the function was asked."""
        asked = []

        def next_of(goal):
            asked.append(goal)
            return hand

        return handled(me, parcel, next_of), asked

    def test_here(self):
        for count in (0, 1, 60):
            parcel = (4, 2, count, ("piece", 0, ("begin",)))
            self.assertEqual(self.asked_of(4, parcel, 3), (("here", parcel), []))
            self.assertEqual(self.asked_of(4, parcel, None), (("here", parcel), []))

    def test_here_at_hand_0(self):
        self.assertEqual(self.asked_of(0, (0, 0, 0, "x"), 1), (("here", (0, 0, 0, "x")), []))

    def test_gone_by_count_ahead_of_none(self):
        self.assertEqual(self.asked_of(1, (4, 2, 0, "x"), 3), (("gone", "count"), []))
        self.assertEqual(self.asked_of(1, (4, 2, 0, "x"), None), (("gone", "count"), []))

    def test_gone_by_none(self):
        for count in (1, 2, 60):
            self.assertEqual(self.asked_of(1, (4, 2, count, "x"), None), (("gone", "none"), [4]))

    def test_on(self):
        for hand, count in itertools.product((0, 3, 4, 12), (1, 2, 60, 1000)):
            wanted = ("on", hand, (4, 2, count - 1, ("got", 5)))
            self.assertEqual(self.asked_of(1, (4, 2, count, ("got", 5)), hand), (wanted, [4]))

    def test_the_source_is_no_matter(self):
        self.assertEqual(self.asked_of(2, (4, 2, 3, "x"), 1), (("on", 1, (4, 2, 2, "x")), [4]))

    def test_it_is_asked_for_goal_0(self):
        self.assertEqual(self.asked_of(2, (0, 2, 3, "x"), 1), (("on", 1, (0, 2, 2, "x")), [0]))

    def test_what_is_handed_in_stays_and_what_is_told_is_the_askers_own(self):
        for me in (4, 1):
            parcel = (4, 2, 3, ["x"])
            told = handled(me, parcel, lambda goal: 0)
            told[-1][3].append("y")
            self.assertEqual(parcel, (4, 2, 3, ["x"]))

    def test_tuples_are_told(self):
        for parcel, hand in (((1, 2, 3, "x"), 0), ((4, 2, 0, "x"), 0), ((4, 2, 1, "x"), None), ((4, 2, 1, "x"), 0)):
            self.assertIsInstance(handled(1, parcel, lambda goal: hand), tuple)


def functions(nexts):
    return [lambda goal, hand=hand: hand for hand in nexts]


class TestCarried(unittest.TestCase):
    def test_to_here(self):
        self.assertEqual(carried((3, 0, 9, "x"), 0, functions([2, 3, 1, None])), ([0, 2, 1, 3], "here"))
        self.assertEqual(carried((0, 1, 1, "x"), 1, functions([None, 0])), ([1, 0], "here"))

    def test_here_at_once(self):
        for count in (0, 5):
            self.assertEqual(carried((1, 0, count, "x"), 1, functions([1, 0])), ([1], "here"))

    def test_to_none(self):
        self.assertEqual(carried((3, 0, 9, "x"), 0, functions([1, 2, None, None])), ([0, 1, 2], "none"))
        self.assertEqual(carried((3, 0, 9, "x"), 0, functions([None, 2, None, None])), ([0], "none"))

    def test_to_count(self):
        nexts = [1, 2, 3, 4, None]
        ends = [carried((4, 0, count, "x"), 0, functions(nexts)) for count in range(6)]
        self.assertEqual(ends, [
            ([0], "count"), ([0, 1], "count"), ([0, 1, 2], "count"), ([0, 1, 2, 3], "count"),
            ([0, 1, 2, 3, 4], "here"), ([0, 1, 2, 3, 4], "here"),
        ])

    def test_count_goes_ahead_of_none_at_the_last_hand(self):
        self.assertEqual(carried((3, 0, 1, "x"), 0, functions([1, None, None, None])), ([0, 1], "count"))

    def test_a_ring_ends_by_count(self):
        for count in (0, 1, 2, 7, 60):
            hands, end = carried((3, 0, count, "x"), 0, functions([1, 2, 0, None]))
            self.assertEqual(end, "count")
            self.assertEqual(hands, [place % 3 for place in range(count + 1)])
        self.assertEqual(carried((1, 0, 2, "x"), 0, functions([0, None])), ([0, 0, 0], "count"))

    def test_each_hand_is_asked_by_its_own_function_for_the_goal(self):
        asked = []

        def of(me, hand):
            def next_of(goal):
                asked.append((me, goal))
                return hand
            return next_of

        carried((2, 0, 9, "x"), 1, [of(0, 2), of(1, 0), of(2, 1)])
        self.assertEqual(asked, [(1, 2), (0, 2)])

    def test_what_is_handed_in_stays_and_what_is_told_is_new(self):
        parcel, next_ofs = (1, 0, 3, ["x"]), functions([1, None])
        kept = list(next_ofs)
        told = carried(parcel, 0, next_ofs)
        self.assertIsInstance(told, tuple)
        self.assertIsInstance(told[0], list)
        told[0].append(7)
        self.assertEqual(carried(parcel, 0, next_ofs), ([0, 1], "here"))
        self.assertEqual((parcel, next_ofs), ((1, 0, 3, ["x"]), kept))

    def test_no_more_hands_than_the_count_and_one(self):
        chance = random.Random(5)
        ends = []
        for _ in range(500):
            nexts = [chance.choice([None, 0, 1, 2, 3, 4]) for _ in range(5)]
            count = chance.randint(0, 8)
            hands, end = carried((4, 0, count, "x"), 0, functions(nexts))
            self.assertLessEqual(len(hands), count + 1)
            self.assertEqual(hands, [0] + [nexts[hand] for hand in hands[:-1]])
            self.assertEqual(end == "here", hands[-1] == 4)
            ends.append(end)
        self.assertEqual(sorted(set(ends)), ["count", "here", "none"])


class TestFallingMarks(unittest.TestCase):
    hands = 6

    def test_none_is_met_twice(self):
        ends = []
        for seed in range(60):
            chance = random.Random(seed)
            ways = self.ways_of(chance)
            next_ofs = [one.next_of for one in ways]
            for goal, start, count in itertools.product(range(self.hands), range(self.hands), (0, 2, 6, 60)):
                hands, end = carried((goal, start, count, "x"), start, next_ofs)
                self.assertEqual(len(hands), len(set(hands)))
                for hand, following in zip(hands, hands[1:]):
                    self.assertTrue(better(ways[following].mark_of(goal), ways[hand].mark_of(goal)))
                if count >= self.hands:
                    self.assertIn(end, ("here", "none"))
                ends.append(end)
        self.assertEqual(sorted(set(ends)), ["count", "here", "none"])

    def ways_of(self, chance):
        ways = [Ways(hand) for hand in range(self.hands)]
        for _ in range(100):
            hand, neighbour = chance.sample(range(self.hands), 2)
            if chance.random() < 0.1:
                ways[hand].raise_own()
            ways[hand].priced(neighbour, chance.choice([None, 1, 3, 8]))
            ways[hand].heard(neighbour, ways[neighbour].reports())
            ways[hand].settle()
        return ways


if __name__ == "__main__":
    unittest.main()
