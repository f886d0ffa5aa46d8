"""Stage 9: what a net is told, promise 9.2: its lines, changes, roads and wishes, and how each fault is refused."""

import unittest

from roadnet.errors import BadLine, BadRoad, BadWish
from roadnet.measures import Measures
from roadnet.net import Net

MEASURES = Measures(5, 3, 20, 50, 9, 4, 4, 2, 30, 20)
LINES = [(0, 1, 3), (1, 2, None), (0, 3, 1000), (3, 4, 1)]
CHANGES = [(7, 0, 3, 1), (0, 0, 1, None), (10000, 1, 2, 1000), (7, 0, 3, 1)]
ROADS = [(1, 0, [(1,)]), (3, 4, [(), (1, 2, 3)]), (0, 1, []), (2, 1, [(3,)] * 60)]
WISHES = [
    (10000, 0, "begin", 4), (0, 4, "end", 0), (3, 2, "put", (3, " ")), (3, 2, "put", (1, "~" * 40)),
    (0, 1, "bind", "a"), (2, 0, "free", "abcdefgz"), (1, 0, "ask", "inn"), (1, 0, "ask", "inn"),
]

NO_ROWS = [None, 5, True, "abc", "abcd", {}]
NO_HANDS = [-1, 5, 1000, True, False, None, "1", (1,), [1]]
NO_PRICES = [0, -1, 1001, True, False, "3", (3,), [3], {}]
NO_TURNS = [-1, 10001, True, False, None, "3", (3,), [3]]
NO_NAMES = [None, "", "Inn", "inn ", "a1", "abcdefghi", 3, ("inn",), ["inn"], True]
NO_TEXTS = ["", "a" * 41, "a\tb", "a\nb", "\x7f", "\u00e4", None, 3, ("a",), ["a"]]

BAD_LINES = NO_ROWS + [(), (0,), (0, 2), (0, 2, 3, 4), [0, 2, 3], (2, 0, 3), (2, 2, 3), (4, 3, 1), (0, 0, 3)]
BAD_LINES += [(hand, 4, 3) for hand in NO_HANDS] + [(0, hand, 3) for hand in NO_HANDS]
BAD_LINES += [(0, 2, price) for price in NO_PRICES]

BAD_CHANGES = NO_ROWS + [(), (3, 0, 1), (0, 1, 3), (3, 0, 1, 4, 5), [3, 0, 1, 4]]
BAD_CHANGES += [(turn, 0, 1, 4) for turn in NO_TURNS] + [(3, 0, 1, price) for price in NO_PRICES]
BAD_CHANGES += [(3, hand, 1, 4) for hand in NO_HANDS] + [(3, 0, hand, 4) for hand in NO_HANDS]
BAD_CHANGES += [(3, 0, 2, 4), (3, 1, 0, 4), (3, 3, 0, None), (3, 1, 1, 4), (3, 1, 4, None)]

BAD_ROADS = NO_ROWS + [(), (3, 0), (3, 0, [], []), [3, 0, []], (0, 2, []), (2, 0, []), (1, 1, []), (4, 1, [(1,)])]
BAD_ROADS += [(hand, 3, []) for hand in NO_HANDS] + [(3, hand, []) for hand in NO_HANDS]

NO_DEEDS = [
    None, 3, "none", (), ((1,),), {}, [[1]], [1], [None], [(0,)], [(4,)], [(-1,)], [(1, 1, 1, 1)], [(True,)], [("1",)],
    [(None,)], [(1,)] * 61, [(1,), (4,)], [(1,), [1], (1,)],
]

BAD_WISHES = NO_ROWS + [(), (1, 0, "ask"), (0, "ask", "inn"), (1, 0, "ask", "inn", 3), [1, 0, "ask", "inn"]]
BAD_WISHES += [(turn, 1, word, what) for turn in NO_TURNS for word, what in (("begin", 2), ("ask", "inn"))]
BAD_WISHES += [(1, hand, word, what) for hand in NO_HANDS for word, what in (("end", 2), ("bind", "inn"))]
NO_WORDS = ["", "Begin", "begin ", "ends", "read", "asks", "name", None, 3, True, ("begin",), ["end"]]
BAD_WISHES += [(1, 2, word, what) for word in NO_WORDS for what in (3, (3, "a"), "inn")]
BAD_WISHES += [(1, 2, "begin", "inn"), (1, 2, "ask", 3), (1, 2, "bind", (3, "a")), (1, 2, "put", "inn")]
BAD_WISHES += [(1, 2, word, goal) for word in ("begin", "end") for goal in NO_HANDS + [2, "inn", (3, "a")]]
BAD_WISHES += [(1, 2, "put", (goal, "a")) for goal in NO_HANDS + [2]]
BAD_WISHES += [(1, 2, "put", (3, text)) for text in NO_TEXTS]
BAD_WISHES += [(1, 2, "put", what) for what in (None, 3, "a", (), (3,), (3, "a", "b"), [3, "a"], ("a", 3))]
BAD_WISHES += [(1, 2, word, name) for word in ("bind", "free", "ask") for name in NO_NAMES]


def with_one(rows, place, row):
    return rows[:place] + [row] + rows[place:]


class PlanCase(unittest.TestCase):
    def refused(self, error, at, lines=LINES, changes=CHANGES, roads=ROADS, wishes=WISHES):
        with self.assertRaises(error) as caught:
            Net(MEASURES, lines, changes, roads, wishes)
        self.assertIs(type(caught.exception), error)
        if at is not None:
            self.assertEqual(caught.exception.at, at)

    def refused_at_each_place(self, error, kind, good, bad_ones):
        for bad in bad_ones:
            for place in (0, 2, len(good)):
                with self.subTest(bad=bad, place=place):
                    self.refused(error, place, **{kind: with_one(good, place, bad)})


class TestGoodPlans(PlanCase):
    def test_good_lists_are_taken(self):
        self.assertEqual(Net(MEASURES, LINES, CHANGES, ROADS, WISHES).turn, 0)

    def test_empty_lists_are_taken(self):
        self.assertEqual(Net(MEASURES, [], [], [], []).turn, 0)

    def test_each_row_is_good_by_itself(self):
        for change in CHANGES:
            Net(MEASURES, LINES, [change], [], [])
        for road in ROADS:
            Net(MEASURES, LINES, [], [road], [])
        for wish in WISHES:
            Net(MEASURES, [], [], [], [wish])

    def test_roads_in_either_direction_and_any_order(self):
        ways = [way for a, b, _ in LINES for way in ((a, b), (b, a))]
        for ordered in (ways, ways[::-1], sorted(ways, key=lambda way: (way[1], -way[0]))):
            Net(MEASURES, LINES, [], [(a, b, [(1,), ()]) for a, b in ordered], [])

    def test_all_pairs_may_be_lines(self):
        lines = [(a, b, 1) for a in range(12) for b in range(a + 1, 12)]
        measures = Measures(12, 1, 1, 1, 0, 1, 1, 1, 1, 0)
        Net(measures, lines, [(0, 10, 11, None)], [(11, 10, [(1,)])], [(0, 11, "begin", 10)])

    def test_hands_are_those_of_the_measures(self):
        measures = Measures(4, 3, 20, 50, 9, 4, 4, 2, 30, 20)
        with self.assertRaises(BadLine) as caught:
            Net(measures, LINES, [], [], [])
        self.assertEqual(caught.exception.at, 3)
        with self.assertRaises(BadWish) as caught:
            Net(measures, [], [], [], [(0, 0, "begin", 3), (0, 4, "ask", "inn")])
        self.assertEqual(caught.exception.at, 1)

    def test_delays_are_held_to_the_lag_of_the_measures(self):
        Net(MEASURES, LINES, [], [(0, 1, [(3,)])], [])
        self.refused(BadRoad, None, roads=[(0, 1, [(4,)])])
        Net(Measures(5, 4, 20, 50, 9, 4, 4, 2, 30, 20), LINES, [], [(0, 1, [(4,)])], [])


class TestRefusedRows(PlanCase):
    def test_lines(self):
        self.refused_at_each_place(BadLine, "lines", LINES, BAD_LINES)

    def test_lines_told_twice(self):
        for first in range(len(LINES)):
            for again in (LINES[first], LINES[first][:2] + (7,), LINES[first][:2] + (None,)):
                for place in range(first + 1, len(LINES) + 1):
                    self.refused(BadLine, place, lines=with_one(LINES, place, again))

    def test_changes(self):
        self.refused_at_each_place(BadLine, "changes", CHANGES, BAD_CHANGES)

    def test_roads(self):
        self.refused_at_each_place(BadLine, "roads", ROADS, BAD_ROADS)

    def test_roads_told_twice(self):
        for first in range(len(ROADS)):
            for deeds in (ROADS[first][2], [], [(2,)], "no deeds"):
                for place in range(first + 1, len(ROADS) + 1):
                    self.refused(BadLine, place, roads=with_one(ROADS, place, ROADS[first][:2] + (deeds,)))

    def test_roads_of_deeds_that_are_none(self):
        for deeds in NO_DEEDS:
            for place in (0, 2, len(ROADS)):
                with self.subTest(deeds=deeds, place=place):
                    self.refused(BadRoad, None, roads=with_one(ROADS, place, (4, 3, deeds)))

    def test_wishes(self):
        self.refused_at_each_place(BadWish, "wishes", WISHES, BAD_WISHES)


class TestOrderOfRefusals(PlanCase):
    def test_lines_then_changes_then_roads_then_wishes(self):
        lines, changes = with_one(LINES, 3, (2, 1, 3)), with_one(CHANGES, 2, (3, 1, 0, 4))
        roads, wishes = with_one(ROADS, 1, (0, 2, [])), with_one(WISHES, 0, (1, 2, "end", 2))
        deeds = with_one(ROADS, 0, (4, 3, [1]))
        self.refused(BadLine, 3, lines, changes, roads, wishes)
        self.refused(BadLine, 2, LINES, changes, roads, wishes)
        self.refused(BadLine, 2, LINES, changes, deeds, wishes)
        self.refused(BadLine, 1, LINES, CHANGES, roads, wishes)
        self.refused(BadRoad, None, LINES, CHANGES, deeds, wishes)
        self.refused(BadWish, 0, LINES, CHANGES, ROADS, wishes)

    def test_of_each_list_the_first(self):
        self.refused(BadLine, 1, lines=[LINES[0], (2, 1, 3), LINES[1], LINES[0]])
        self.refused(BadLine, 1, lines=[LINES[0], LINES[0], LINES[1], (2, 1, 3)])
        self.refused(BadLine, 0, changes=[(3, 0, 2, 4), CHANGES[0], (-1, 0, 1, 4)])
        self.refused(BadLine, 1, roads=[ROADS[0], ROADS[0], (0, 2, [])])
        self.refused(BadWish, 2, wishes=[WISHES[0], WISHES[1], (1, 2, "end", 2), None])

    def test_road_by_road(self):
        self.refused(BadLine, 1, roads=[ROADS[0], (0, 2, []), (4, 3, [1])])
        self.refused(BadRoad, None, roads=[ROADS[0], (4, 3, [1]), (0, 2, [])])
        self.refused(BadLine, 1, roads=[ROADS[0], (0, 2, [1])])

    def test_a_line_is_told_in_the_list_whatever_its_price(self):
        Net(MEASURES, [(0, 1, None)], [(3, 0, 1, 5)], [(1, 0, [])], [])
        self.refused(BadLine, 0, lines=[], changes=[(3, 0, 1, 5)])
        self.refused(BadLine, 0, lines=[], changes=[])
