"""Stage 3: ways, promises 3.1 to 3.7, and 0.2 where it speaks of them."""

import itertools
import random
import unittest

from roadnet.ways import Ways, better, chain


def settled(me, prices, told):
    """Ways of a hand that was told prices by neighbours, then reports by neighbours, and settled once."""
    ways = Ways(me)
    for neighbour, price in prices.items():
        ways.priced(neighbour, price)
    for neighbour, reports in told:
        ways.heard(neighbour, reports)
    ways.settle()
    return ways


class WaysCase(unittest.TestCase):
    def has(self, ways, goal, hand, price, mark):
        self.assertEqual((ways.next_of(goal), ways.price_of(goal), ways.mark_of(goal)), (hand, price, mark))


class TestBetter(unittest.TestCase):
    def test_the_greater_generation_whatever_the_prices(self):
        for one, other in itertools.product((0, 1, 5, 1000), repeat=2):
            with self.subTest(one=one, other=other):
                self.assertIs(better((3, one), (2, other)), True)
                self.assertIs(better((2, one), (3, other)), False)
                self.assertIs(better((1, one), (0, other)), True)

    def test_the_lesser_price_of_one_generation(self):
        for generation in (0, 1, 7):
            self.assertIs(better((generation, 4), (generation, 5)), True)
            self.assertIs(better((generation, 5), (generation, 4)), False)
            self.assertIs(better((generation, 0), (generation, 1)), True)

    def test_of_two_alike_none(self):
        for mark in ((0, 0), (0, 5), (5, 0), (7, 7)):
            self.assertIs(better(mark, mark), False)
            self.assertIs(better(mark, tuple(list(mark))), False)


class TestKept(WaysCase):
    def test_deeds_give_none_back(self):
        ways = Ways(0)
        self.assertIsNone(ways.raise_own())
        self.assertIsNone(ways.heard(1, [(1, 0, 0)]))
        self.assertIsNone(ways.heard(1, []))
        self.assertIsNone(ways.priced(1, 3))
        self.assertIsNone(ways.priced(1, None))
        self.assertIsNone(ways.settle())

    def test_the_own_generation(self):
        ways = Ways(4)
        for generation in range(6):
            self.assertEqual(ways.mark_of(4), (generation, 0))
            self.assertEqual(ways.reports(), [(4, generation, 0)])
            ways.raise_own()

    def test_nothing_comes_about_ahead_of_settling(self):
        ways = settled(0, {1: 3}, [(1, [(1, 0, 0)])])
        ways.heard(1, [(1, 1, 0), (2, 0, 4)])
        self.has(ways, 1, 1, 3, (0, 3))
        self.has(ways, 2, None, None, None)
        ways.priced(1, None)
        self.has(ways, 1, 1, 3, (0, 3))
        ways.settle()
        self.has(ways, 1, None, None, (0, 3))

    def test_the_last_report_takes_the_place_of_the_one_ahead(self):
        self.has(settled(0, {1: 2}, [(1, [(9, 0, 4)]), (1, [(9, 0, 8)])]), 9, 1, 10, (0, 10))
        self.has(settled(0, {1: 2}, [(1, [(9, 0, 8)]), (1, [(9, 0, 4)])]), 9, 1, 6, (0, 6))
        self.has(settled(0, {1: 2}, [(1, [(9, 3, 4)]), (1, [(9, 1, 8)])]), 9, 1, 10, (1, 10))
        self.has(settled(0, {1: 2}, [(1, [(9, 0, 4), (9, 0, 7)])]), 9, 1, 9, (0, 9))

    def test_a_report_with_none_takes_it_too(self):
        self.has(settled(0, {1: 2}, [(1, [(9, 0, 4)]), (1, [(9, 0, None)])]), 9, None, None, None)
        self.has(settled(0, {1: 2}, [(1, [(9, 0, None)]), (1, [(9, 0, 4)])]), 9, 1, 6, (0, 6))

    def test_a_report_that_lacks_later_stays(self):
        self.has(settled(0, {1: 2}, [(1, [(9, 0, 4), (8, 0, 1)]), (1, [(8, 0, 1)])]), 9, 1, 6, (0, 6))

    def test_each_neighbour_has_its_own(self):
        told = [(1, [(9, 0, 4)]), (2, [(9, 0, 3)])]
        self.has(settled(0, {1: 2, 2: 2}, told), 9, 2, 5, (0, 5))
        self.has(settled(0, {1: 2, 2: 2}, told + [(2, [(9, 0, None)])]), 9, 1, 6, (0, 6))
        self.has(settled(0, {1: 2, 2: 2}, told + [(1, [(9, 0, None)])]), 9, 2, 5, (0, 5))

    def test_reports_of_itself_are_put_aside(self):
        ways = settled(3, {1: 2}, [(1, [(3, 7, 5), (9, 0, 1), (3, 0, None)])])
        self.has(ways, 3, None, 0, (0, 0))
        self.has(ways, 9, 1, 3, (0, 3))
        self.assertEqual(ways.reports(), [(3, 0, 0), (9, 0, 3)])

    def test_a_price_told_as_none_takes_it_away(self):
        ways = settled(0, {1: 2}, [(1, [(9, 0, 4)])])
        ways.priced(1, None)
        ways.settle()
        self.has(ways, 9, None, None, (0, 6))
        ways.priced(1, 1)
        ways.settle()
        self.has(ways, 9, 1, 5, (0, 5))

    def test_the_last_price_holds(self):
        ways = Ways(0)
        for price in (7, None, 5, 3):
            ways.priced(1, price)
        ways.heard(1, [(9, 0, 0)])
        ways.settle()
        self.has(ways, 9, 1, 3, (0, 3))

    def test_the_list_handed_in_stays_and_is_not_kept(self):
        reports = [(9, 0, 4), (8, 0, 2)]
        ways = Ways(0)
        ways.priced(1, 1)
        ways.heard(1, reports)
        ways.settle()
        self.assertEqual(reports, [(9, 0, 4), (8, 0, 2)])
        reports[0] = (9, 5, 0)
        reports.append((7, 0, 0))
        ways.settle()
        self.assertEqual(ways.reports(), [(0, 0, 0), (8, 0, 3), (9, 0, 5)])
        reports.clear()
        ways.settle()
        self.assertEqual(ways.reports(), [(0, 0, 0), (8, 0, 3), (9, 0, 5)])

    def test_hands_with_holes_between(self):
        ways = settled(1000, {70: 2, 5: 9}, [(70, [(0, 0, 1), (999, 2, 3)]), (5, [(5, 0, 0), (10 ** 9, 0, 1)])])
        self.assertEqual(
            ways.reports(), [(0, 0, 3), (5, 0, 9), (999, 2, 5), (1000, 0, 0), (10 ** 9, 0, 10)]
        )

    def test_hands_share_nothing(self):
        settled(0, {1: 2}, [(1, [(9, 0, 4)])])
        self.assertEqual(settled(1, {}, []).reports(), [(1, 0, 0)])


class TestSettle(WaysCase):
    def test_a_neighbour_without_a_price_is_not_taken(self):
        self.has(settled(0, {}, [(1, [(9, 0, 4)])]), 9, None, None, None)
        self.has(settled(0, {1: None}, [(1, [(9, 0, 4)])]), 9, None, None, None)
        self.has(settled(0, {2: 5}, [(1, [(9, 0, 4)]), (2, [(9, 0, 40)])]), 9, 2, 45, (0, 45))

    def test_a_price_of_none_is_not_taken_whatever_its_generation(self):
        told = [(1, [(9, 50, None)]), (2, [(9, 0, 3)])]
        self.has(settled(0, {1: 1, 2: 1}, told), 9, 2, 4, (0, 4))

    def test_a_price_of_0_is_taken(self):
        self.has(settled(0, {1: 1}, [(1, [(1, 0, 0)])]), 1, 1, 1, (0, 1))

    def test_hand_0_may_be_next_and_goal(self):
        self.has(settled(2, {0: 4}, [(0, [(0, 0, 0), (1, 0, 3)])]), 0, 0, 4, (0, 4))
        self.has(settled(2, {0: 4}, [(0, [(0, 0, 0), (1, 0, 3)])]), 1, 0, 7, (0, 7))

    def test_one_that_is_not_better_than_the_mark_is_not_taken(self):
        for report, is_taken in (
            ((9, 0, 5), False), ((9, 0, 6), False), ((9, 0, 4), True), ((9, 1, 100), True), ((9, 1, 0), True),
        ):
            with self.subTest(report=report):
                ways = settled(0, {1: 1}, [(1, [(9, 0, 4)])])
                self.has(ways, 9, 1, 5, (0, 5))
                ways.heard(1, [report])
                ways.settle()
                self.assertEqual(ways.next_of(9), 1 if is_taken else None)

    def test_a_lesser_generation_is_never_taken(self):
        ways = settled(0, {1: 1, 2: 1}, [(1, [(9, 3, 50)])])
        ways.heard(2, [(9, 2, 0)])
        ways.heard(1, [(9, 3, None)])
        ways.settle()
        self.has(ways, 9, None, None, (3, 51))

    def test_the_least_sum(self):
        told = [(1, [(9, 0, 10)]), (2, [(9, 0, 2)]), (3, [(9, 0, 6)])]
        self.has(settled(0, {1: 1, 2: 9, 3: 4}, told), 9, 3, 10, (0, 10))

    def test_the_least_sum_goes_ahead_of_the_generation(self):
        told = [(1, [(9, 5, 10)]), (2, [(9, 0, 2)])]
        self.has(settled(0, {1: 1, 2: 1}, told), 9, 2, 3, (0, 3))

    def test_of_alike_sums_the_greatest_generation(self):
        for order in itertools.permutations([(1, [(9, 0, 6)]), (2, [(9, 4, 5)]), (3, [(9, 3, 4)])]):
            self.has(settled(0, {1: 1, 2: 2, 3: 3}, order), 9, 2, 7, (4, 7))

    def test_of_alike_generations_the_least_neighbour(self):
        for order in itertools.permutations([(7, [(9, 1, 6)]), (5, [(9, 1, 5)]), (6, [(9, 1, 4)])]):
            self.has(settled(0, {7: 1, 5: 2, 6: 3}, order), 9, 5, 7, (1, 7))

    def test_a_way_worse_than_the_mark_leaves_the_mark(self):
        ways = settled(0, {1: 1}, [(1, [(9, 0, 4)])])
        ways.priced(1, 30)
        ways.settle()
        self.has(ways, 9, 1, 34, (0, 5))
        self.assertEqual(ways.reports(), [(0, 0, 0), (9, 0, 34)])

    def test_a_way_like_the_mark_leaves_it(self):
        ways = settled(0, {1: 1}, [(1, [(9, 0, 4)])])
        ways.settle()
        self.has(ways, 9, 1, 5, (0, 5))

    def test_a_better_way_betters_the_mark(self):
        ways = settled(0, {1: 5}, [(1, [(9, 0, 4)])])
        ways.priced(1, 2)
        ways.settle()
        self.has(ways, 9, 1, 6, (0, 6))
        ways.heard(1, [(9, 1, 90)])
        ways.settle()
        self.has(ways, 9, 1, 92, (1, 92))

    def test_a_way_of_a_greater_sum_and_generation_betters_it(self):
        ways = settled(0, {1: 1, 2: 1}, [(1, [(9, 2, 8)])])
        ways.heard(1, [(9, 2, None)])
        ways.heard(2, [(9, 3, 20)])
        ways.settle()
        self.has(ways, 9, 2, 21, (3, 21))

    def test_where_none_may_be_taken_the_way_goes_and_the_mark_stays(self):
        ways = settled(0, {1: 1}, [(1, [(9, 2, 4)])])
        ways.heard(1, [(9, 2, None)])
        ways.settle()
        self.has(ways, 9, None, None, (2, 5))
        ways.settle()
        self.has(ways, 9, None, None, (2, 5))

    def test_goals_are_settled_each_by_itself(self):
        ways = settled(0, {1: 1, 2: 1}, [(1, [(8, 0, 1), (9, 0, 9)]), (2, [(8, 0, 9), (9, 0, 1)])])
        self.has(ways, 8, 1, 2, (0, 2))
        self.has(ways, 9, 2, 2, (0, 2))
        ways.heard(1, [(8, 0, None)])
        ways.heard(2, [(8, 0, None)])
        ways.settle()
        self.has(ways, 8, None, None, (0, 2))
        self.has(ways, 9, 2, 2, (0, 2))

    def test_against_the_words_of_the_promise(self):
        for seed in range(40):
            self.compare(random.Random(seed))

    def compare(self, chance):
        ways = Ways(0)
        last, prices, marks = {}, {}, {}
        for _ in range(60):
            neighbour = chance.randint(1, 4)
            if chance.random() < 0.3:
                prices[neighbour] = chance.choice([None, 1, 2, 3, 4])
                ways.priced(neighbour, prices[neighbour])
            else:
                goal = chance.randint(5, 6)
                last[goal, neighbour] = (chance.randint(0, 3), chance.choice([None, 0, 1, 2, 3, 4, 5]))
                ways.heard(neighbour, [(goal,) + last[goal, neighbour]])
            if chance.random() < 0.5:
                ways.settle()
                for goal in (5, 6):
                    way = self.way_by_words(goal, last, prices, marks)
                    self.has(ways, goal, way[0], way[1], marks.get(goal))

    def way_by_words(self, goal, last, prices, marks):
        mark = marks.get(goal)
        may = []
        for neighbour in (1, 2, 3, 4):
            generation, price = last.get((goal, neighbour), (0, None))
            line = prices.get(neighbour)
            is_better = mark is None or generation > mark[0]
            if line is not None and price is not None:
                if is_better or (generation == mark[0] and price < mark[1]):
                    may.append((price + line, generation, neighbour))
        if not may:
            return None, None
        least = [one for one in may if one[0] == min(other[0] for other in may)]
        newest = [one for one in least if one[1] == max(other[1] for other in least)]
        price, generation, neighbour = newest[0]
        if mark is None or generation > mark[0] or (generation == mark[0] and price < mark[1]):
            marks[goal] = (generation, price)
        return neighbour, price


class TestReports(WaysCase):
    def test_by_goals_rising_with_itself_among_them(self):
        told = [(6, [(9, 2, 4), (1, 0, 3), (6, 1, 0), (2, 0, 8)])]
        ways = settled(5, {6: 1}, told)
        ways.raise_own()
        self.assertEqual(ways.reports(), [(1, 0, 4), (2, 0, 9), (5, 1, 0), (6, 1, 1), (9, 2, 5)])

    def test_a_goal_with_a_mark_and_no_way(self):
        ways = settled(5, {6: 1}, [(6, [(9, 2, 4), (1, 7, 3)])])
        ways.heard(6, [(9, 3, None)])
        ways.settle()
        self.assertEqual(ways.reports(), [(1, 7, 4), (5, 0, 0), (9, 2, None)])

    def test_a_way_is_told_by_itself_not_by_the_mark(self):
        ways = settled(0, {1: 1}, [(1, [(9, 2, 4)])])
        ways.priced(1, 60)
        ways.settle()
        self.assertEqual(ways.reports(), [(0, 0, 0), (9, 2, 64)])

    def test_a_goal_without_a_mark_is_not_told(self):
        ways = settled(0, {1: 1}, [(1, [(9, 2, None)]), (2, [(8, 0, 1)])])
        self.assertEqual(ways.reports(), [(0, 0, 0)])

    def test_the_list_is_the_askers_own(self):
        ways = settled(0, {1: 1}, [(1, [(9, 2, 4)])])
        told = ways.reports()
        told.append((7, 0, 0))
        told[0] = None
        self.assertEqual(ways.reports(), [(0, 0, 0), (9, 2, 5)])
        ways.settle()
        self.assertEqual(ways.reports(), [(0, 0, 0), (9, 2, 5)])


class TestAsking(WaysCase):
    def test_with_a_way(self):
        self.has(settled(0, {1: 3}, [(1, [(9, 2, 4)])]), 9, 1, 7, (2, 7))

    def test_without_one(self):
        ways = settled(0, {1: 3}, [(1, [(9, 2, 4)])])
        ways.priced(1, None)
        ways.settle()
        self.has(ways, 9, None, None, (2, 7))

    def test_unknown(self):
        self.has(Ways(0), 9, None, None, None)
        self.has(settled(0, {}, [(1, [(9, 0, 0)])]), 9, None, None, None)

    def test_itself(self):
        ways = settled(3, {1: 3}, [(1, [(3, 9, 1)])])
        self.has(ways, 3, None, 0, (0, 0))
        ways.raise_own()
        self.has(ways, 3, None, 0, (1, 0))
        self.has(Ways(0), 0, None, 0, (0, 0))


class TestChain(unittest.TestCase):
    def told(self, nexts, start, goal):
        asked = []

        def of(hand):
            def next_of(wanted):
                asked.append((hand, wanted))
                return nexts[hand]
            return next_of

        hands = chain([of(hand) for hand in range(len(nexts))], start, goal)
        self.assertEqual(asked, [(hand, goal) for hand, _ in asked])
        self.assertEqual(len(asked), len(set(asked)))
        return hands

    def test_to_the_goal(self):
        self.assertEqual(self.told([2, 0, 3, None], 1, 3), [1, 0, 2, 3])
        self.assertEqual(self.told([None, 0], 1, 0), [1, 0])

    def test_the_goal_ends_it_though_it_has_a_next_one(self):
        self.assertEqual(self.told([1, 2, 3, 0], 0, 2), [0, 1, 2])

    def test_to_a_hand_without_a_next_one(self):
        self.assertEqual(self.told([1, 2, None, None], 0, 3), [0, 1, 2])
        self.assertEqual(self.told([None, None], 0, 1), [0])

    def test_into_a_ring(self):
        self.assertEqual(self.told([1, 2, 0, None], 0, 3), [0, 1, 2, 0])
        self.assertEqual(self.told([1, 2, 1, None], 0, 3), [0, 1, 2, 1])
        self.assertEqual(self.told([0, None], 0, 1), [0, 0])

    def test_start_and_goal_the_same(self):
        for nexts in ([None], [0], [5]):
            self.assertEqual(self.told(nexts, 0, 0), [0])

    def test_what_is_handed_in_stays_and_what_is_told_is_new(self):
        next_ofs = [lambda goal: 1, lambda goal: None]
        kept = list(next_ofs)
        told = chain(next_ofs, 0, 1)
        told.append(7)
        self.assertEqual(next_ofs, kept)
        self.assertEqual(chain(next_ofs, 0, 1), [0, 1])

    def test_over_ways(self):
        ways = [Ways(hand) for hand in range(4)]
        for hand in (1, 2, 3):
            ways[hand].priced(hand - 1, 2)
            ways[hand].heard(hand - 1, ways[hand - 1].reports())
            ways[hand].settle()
        self.assertEqual(chain([one.next_of for one in ways], 3, 0), [3, 2, 1, 0])
        self.assertEqual([one.price_of(0) for one in ways], [0, 2, 4, 6])


class TestSo(unittest.TestCase):
    """Several hands and any deeds: reports once told come to neighbours late, again, never and in any order."""

    hands = 5

    def test_no_chain_meets_a_hand_twice(self):
        met = 0
        for seed in range(60):
            met = max(met, self.go(random.Random(seed)))
        self.assertGreaterEqual(met, 4)

    def go(self, chance):
        ways = [Ways(hand) for hand in range(self.hands)]
        told = [[] for _ in range(self.hands)]
        longest = 0
        for _ in range(300):
            self.one_deed(chance, ways, told)
            for hand in range(self.hands):
                told[hand].append(ways[hand].reports())
            longest = max(longest, self.look(ways))
        return longest

    def one_deed(self, chance, ways, told):
        hand = chance.randrange(self.hands)
        neighbour = chance.choice([other for other in range(self.hands) if other != hand])
        deed = chance.random()
        if deed < 0.04:
            ways[hand].raise_own()
        elif deed < 0.2:
            ways[hand].priced(neighbour, chance.choice([None, 1, 1, 2, 5, 9]))
        elif deed < 0.6 and told[neighbour]:
            reports = told[neighbour]
            ways[hand].heard(neighbour, chance.choice([reports[-1], chance.choice(reports)]))
        else:
            ways[hand].settle()

    def look(self, ways):
        next_ofs = [one.next_of for one in ways]
        longest = 0
        for goal in range(self.hands):
            for hand in range(self.hands):
                hands = chain(next_ofs, hand, goal)
                self.assertEqual(len(hands), len(set(hands)))
                longest = max(longest, len(hands))
                following = ways[hand].next_of(goal)
                if following is not None:
                    mark, ahead = ways[hand].mark_of(goal), ways[following].mark_of(goal)
                    self.assertTrue(ahead[0] > mark[0] or (ahead[0] == mark[0] and ahead[1] < mark[1]))
        return longest

    def test_marks_only_get_better(self):
        for seed in range(20):
            chance = random.Random(seed)
            ways = [Ways(hand) for hand in range(self.hands)]
            told = [[] for _ in range(self.hands)]
            last = {}
            for _ in range(200):
                self.one_deed(chance, ways, told)
                for hand in range(self.hands):
                    told[hand].append(ways[hand].reports())
                    for goal in range(self.hands):
                        mark = ways[hand].mark_of(goal)
                        ahead = last.get((hand, goal))
                        if ahead is not None:
                            self.assertIsNotNone(mark)
                            self.assertFalse(better(ahead, mark))
                        last[hand, goal] = mark


if __name__ == "__main__":
    unittest.main()
