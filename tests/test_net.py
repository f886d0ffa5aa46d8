"""Stage 9: the whole net, promises 9.3 to 9.5: a turn's six steps, the rows told of them, and when all is done."""

import unittest

from roadnet.measures import Measures
from roadnet.net import Net

BEGIN, END = ("begin",), ("end",)
MEASURES = {
    "hands": 2, "lag": 1, "miss": 2, "raise_each": 1000, "count": 3,
    "room": 2, "places": 2, "window": 2, "wait": 5, "keep": 9,
}
PAIR = [(0, 1, 7)]
ROW_OF_THREE = [(0, 1, 3), (1, 2, 4)]


def signs(text):
    return ("signs", text)


def net_of(lines, changes=(), roads=(), wishes=(), **others):
    return Net(Measures(**{**MEASURES, **others}), list(lines), list(changes), list(roads), list(wishes))


def stepped(net, turns):
    for _ in range(turns):
        net.step()
    return net


def rows_of(net, *words, turn=None):
    return [row for row in net.rows() if row[0] in words and turn in (None, row[1])]


def read_of(net, hand, source):
    return [thing for row in rows_of(net, "read") if row[2:4] == (hand, source) for thing in row[4]]


class TestWorkedOut(unittest.TestCase):
    """Two hands and one thing, each row worked out from the document by hand."""

    def test_all_rows_of_a_small_net(self):
        net = net_of(PAIR, wishes=[(0, 0, "begin", 1)])
        piece = (1, 0, 3, ("piece", 0, BEGIN))
        piece_on, got_on = piece[:2] + (2, piece[3]), (0, 1, 2, ("got", 1))
        expected = [
            ("wish", 0, 0, "begin", 1, "ok"), ("gone", 0, 0, piece, "none"),
            ("sent", 0, 0, 1, (), 0), ("sent", 0, 1, 0, (), 0),
            ("came", 1, 0, 1, 0, ()), ("came", 1, 1, 0, 0, ()), ("way", 1, 0, 1, 1, 7), ("way", 1, 1, 0, 0, 7),
            ("sent", 1, 0, 1, (), 0), ("sent", 1, 1, 0, (), 0),
        ]
        for turn in (2, 3, 4):
            expected += [("came", turn, 0, 1, turn - 1, ()), ("came", turn, 1, 0, turn - 1, ())]
            expected += [("sent", turn, 0, 1, (), 0), ("sent", turn, 1, 0, (), 0)]
        expected += [
            ("came", 5, 0, 1, 4, ()), ("came", 5, 1, 0, 4, ()),
            ("sent", 5, 0, 1, ((0, piece_on),), 0), ("sent", 5, 1, 0, (), 0),
            ("came", 6, 0, 1, 5, ()), ("came", 6, 1, 0, 5, (piece_on,)),
            ("here", 6, 1, piece_on), ("read", 6, 1, 0, (BEGIN,)),
            ("sent", 6, 0, 1, ((0, piece_on),), 0), ("sent", 6, 1, 0, ((0, got_on),), 1),
            ("came", 7, 0, 1, 6, (got_on,)), ("came", 7, 1, 0, 6, ()), ("here", 7, 0, got_on),
            ("sent", 7, 0, 1, (), 1), ("sent", 7, 1, 0, ((0, got_on),), 1),
        ]
        self.assertEqual(net.run(100), 8)
        self.assertEqual(net.rows(), expected)
        net.step()
        self.assertEqual(net.rows()[len(expected):], [
            ("came", 8, 0, 1, 7, ()), ("came", 8, 1, 0, 7, ()), ("sent", 8, 0, 1, (), 1), ("sent", 8, 1, 0, (), 1),
        ])

    def test_all_rows_of_an_ask(self):
        net = net_of(PAIR, wishes=[(3, 0, "bind", "inn"), (3, 1, "ask", "inn"), (3, 1, "ask", "mill")])
        inn, mill = (0, 1, 2, ("ask", "inn", 3)), (0, 1, 2, ("ask", "mill", 3))
        told_inn, told_mill = (1, 0, 2, ("told", "inn", 0, 3)), (1, 0, 2, ("told", "mill", None, 3))
        stepped(net, 6)
        self.assertEqual([row for row in net.rows() if row[1] >= 3], [
            ("came", 3, 0, 1, 2, ()), ("came", 3, 1, 0, 2, ()),
            ("wish", 3, 0, "bind", "inn", "ok"), ("wish", 3, 1, "ask", "inn", "ok"),
            ("wish", 3, 1, "ask", "mill", "ok"),
            ("sent", 3, 0, 1, (), 0), ("sent", 3, 1, 0, ((0, inn), (1, mill)), 0),
            ("came", 4, 0, 1, 3, (inn, mill)), ("came", 4, 1, 0, 3, ()), ("here", 4, 0, inn), ("here", 4, 0, mill),
            ("sent", 4, 0, 1, ((0, told_inn), (1, told_mill)), 2), ("sent", 4, 1, 0, ((0, inn), (1, mill)), 0),
            ("came", 5, 0, 1, 4, ()), ("came", 5, 1, 0, 4, (told_inn, told_mill)),
            ("here", 5, 1, told_inn), ("here", 5, 1, told_mill),
            ("sent", 5, 0, 1, ((0, told_inn), (1, told_mill)), 2), ("sent", 5, 1, 0, (), 2),
        ])
        self.assertEqual([net.whose(1, "inn"), net.whose(1, "mill"), net.whose(0, "inn")], [0, None, None])


class TestLines(unittest.TestCase):
    def test_a_change_is_done_ahead_of_all_else_of_its_turn(self):
        net = stepped(net_of(PAIR, [(4, 0, 1, 9)]), 5)
        self.assertEqual(rows_of(net, "way", turn=4), [("way", 4, 0, 1, 1, 9), ("way", 4, 1, 0, 0, 9)])
        self.assertEqual(rows_of(net, "way", turn=3), [])

    def test_a_line_that_goes_in_turn_0_was_never_used_but_has_a_price(self):
        net = stepped(net_of(PAIR, [(0, 0, 1, None)]), 6)
        self.assertEqual(net.rows(), [])

    def test_a_line_that_is_there_from_a_turn_on(self):
        net = stepped(net_of([(0, 1, None)], [(3, 0, 1, 5)]), 5)
        self.assertEqual(net.rows(), [
            ("sent", 3, 0, 1, (), 0), ("sent", 3, 1, 0, (), 0),
            ("came", 4, 0, 1, 3, ()), ("came", 4, 1, 0, 3, ()), ("way", 4, 0, 1, 1, 5), ("way", 4, 1, 0, 0, 5),
            ("sent", 4, 0, 1, (), 0), ("sent", 4, 1, 0, (), 0),
        ])

    def test_changes_of_one_turn_are_done_in_the_order_of_the_list(self):
        for prices, last in (((None, 5), 5), ((5, None), None), ((8, None, 6), 6), ((6, 8), 8)):
            changes = [(2, 0, 1, price) for price in prices]
            net = stepped(net_of(PAIR, changes), 3)
            kept = [price for price in prices if price is not None][-1]
            self.assertEqual(net.price_of(0, 1), kept)
            self.assertEqual(len(rows_of(net, "sent", turn=2)), 0 if last is None else 2)

    def test_changes_out_of_the_order_of_turns(self):
        net = stepped(net_of(PAIR, [(5, 0, 1, 2), (3, 0, 1, 8)]), 4)
        self.assertEqual(net.price_of(0, 1), 8)
        self.assertEqual(stepped(net, 2).price_of(0, 1), 2)

    def test_the_last_price_is_kept_till_the_hands_miss_one_another(self):
        net = stepped(net_of(PAIR, [(4, 0, 1, None)], miss=3), 10)
        self.assertEqual([row[1] for row in rows_of(net, "sent") if row[2] == 0], [0, 1, 2, 3])
        self.assertEqual([row[1] for row in rows_of(net, "came") if row[2] == 0], [1, 2, 3, 4])
        ways = [row for row in rows_of(net, "way") if row[2] == 0]
        self.assertEqual(ways, [("way", 1, 0, 1, 1, 7), ("way", 8, 0, 1, None, None)])

    def test_a_line_that_is_there_again_ahead_of_that_was_never_missed(self):
        net = stepped(net_of(PAIR, [(4, 0, 1, None), (7, 0, 1, 7)], miss=3), 20)
        self.assertEqual(len(rows_of(net, "way")), 2)

    def test_a_line_that_goes_keeps_the_price_of_its_last_change(self):
        net = stepped(net_of(PAIR, [(4, 0, 1, 6), (4, 0, 1, None)], miss=3), 8)
        self.assertEqual(net.price_of(0, 1), 6)
        self.assertEqual(stepped(net, 1).price_of(0, 1), None)

    def test_a_line_that_is_there_again_behind_that(self):
        net = stepped(net_of(PAIR, [(4, 0, 1, None), (12, 0, 1, 9)], miss=3, raise_each=10), 14)
        self.assertEqual([row for row in rows_of(net, "way") if row[2] == 0], [
            ("way", 1, 0, 1, 1, 7), ("way", 8, 0, 1, None, None), ("way", 13, 0, 1, 1, 9),
        ])

    def test_each_line_for_itself(self):
        net = stepped(net_of(ROW_OF_THREE, [(6, 1, 2, None)], hands=3), 7)
        self.assertEqual([row[2:4] for row in rows_of(net, "sent", turn=6)], [(0, 1), (1, 0)])
        self.assertEqual([row[2:4] for row in rows_of(net, "sent", turn=5)], [(0, 1), (1, 0), (1, 2), (2, 1)])

    def test_what_lies_on_a_road_when_a_line_goes_comes_all_the_same(self):
        net = stepped(net_of(PAIR, [(2, 0, 1, None)], [(0, 1, [(4,)])], lag=4), 9)
        self.assertEqual(rows_of(net, "came"), [
            ("came", 1, 0, 1, 0, ()), ("came", 2, 0, 1, 1, ()), ("came", 4, 1, 0, 0, ()), ("came", 5, 1, 0, 1, ()),
        ])

    def test_what_lies_in_a_link_or_a_gate_when_a_line_goes_goes_on_behind(self):
        wishes = [(3, 0, "begin", 1), (3, 0, "put", (1, "abcdefghi")), (3, 0, "end", 1)]
        changes = [(4, 0, 1, None), (9, 0, 1, 1)]
        net = net_of(PAIR, changes, wishes=wishes, miss=9, room=1, places=4, window=4, wait=50)
        stepped(net, 9)
        self.assertEqual(read_of(net, 1, 0), [BEGIN])
        stepped(net, 9)
        self.assertEqual(read_of(net, 1, 0), [BEGIN, signs("abcdefgh"), signs("i"), END])
        pieces = [row[3][3][1] for row in rows_of(net, "here") if row[3][3][0] == "piece"]
        self.assertEqual(pieces, [0, 1, 2, 3])


class TestLetters(unittest.TestCase):
    def test_looked_at_hand_by_hand_of_each_its_neighbours_rising(self):
        lines = [(2, 3, 1), (0, 3, 1), (1, 3, 1), (0, 1, 1)]
        roads = [(3, 0, [(2, 1, 1), (1,)])]
        net = stepped(net_of(lines, roads=roads, hands=4, lag=2), 3)
        self.assertEqual([row[2:5] for row in rows_of(net, "came", turn=2)], [
            (0, 1, 1), (0, 3, 0), (0, 3, 1), (1, 0, 1), (1, 3, 1), (2, 3, 1), (3, 0, 1), (3, 1, 1), (3, 2, 1),
        ])
        self.assertEqual([row[2:5] for row in rows_of(net, "came", turn=1)][:3], [(0, 1, 0), (0, 3, 0), (0, 3, 0)])

    def test_sent_hand_by_hand_of_each_its_neighbours_rising(self):
        net = stepped(net_of([(2, 3, 1), (0, 3, 1), (1, 3, 1), (0, 1, 1)], hands=4), 1)
        self.assertEqual([row[2:4] for row in net.rows()], [
            (0, 1), (0, 3), (1, 0), (1, 3), (2, 3), (3, 0), (3, 1), (3, 2),
        ])

    def test_reports_of_letters_newer_than_all_alone(self):
        # The letter of turn 1, with the price that hand 1 had ahead of the change, comes behind that of turn 2.
        roads = [(1, 0, [(1,), (3,), (1,)] + [()] * 57)]
        net = net_of(ROW_OF_THREE, [(2, 1, 2, 9)], roads, hands=3, lag=3, miss=9)
        stepped(net, 4)
        self.assertEqual(net.price_of(0, 2), 12)
        stepped(net, 1)
        self.assertEqual([row[4] for row in rows_of(net, "came") if row[2] == 0], [0, 2, 1])
        self.assertEqual(net.price_of(0, 2), 12)

    def test_a_letter_of_old_is_heard_all_the_same(self):
        roads = [(1, 0, [(1, 4), ()])]
        net = stepped(net_of(PAIR, [(1, 0, 1, None)], roads, lag=4), 7)
        self.assertEqual([row[1] for row in rows_of(net, "came") if row[2] == 0], [1, 4])
        self.assertEqual(net.price_of(0, 1), 7)
        self.assertEqual(stepped(net, 1).price_of(0, 1), None)

    def test_parcels_and_got_of_every_letter(self):
        # Each letter comes thrice; the parcel is handed on once, and got is heard at once.
        roads = [(0, 1, [(1, 2, 3)]), (1, 0, [(3, 2, 1)])]
        wishes = [(4, 0, "begin", 1)]
        net = stepped(net_of(PAIR, roads=roads, wishes=wishes, lag=3, wait=50), 12)
        self.assertEqual([row[4] for row in rows_of(net, "read")], [(BEGIN,)])
        self.assertEqual([row[1] for row in rows_of(net, "sent") if row[2] == 0 and row[4]], [4, 5])

    def test_stamps_are_turns_and_deeds_go_by_turns(self):
        roads = [(0, 1, [(1,), (), (2,)])]
        net = stepped(net_of(PAIR, [(3, 0, 1, None), (5, 0, 1, 7)], roads, lag=2), 8)
        came = [(row[1], row[4]) for row in rows_of(net, "came") if row[2] == 1]
        self.assertEqual(came, [(1, 0), (4, 2), (7, 5), (7, 6)])


class TestWays(unittest.TestCase):
    def test_ways_spread_a_hand_a_turn(self):
        net = stepped(net_of(ROW_OF_THREE, hands=3), 3)
        self.assertEqual(rows_of(net, "way"), [
            ("way", 1, 0, 1, 1, 3), ("way", 1, 1, 0, 0, 3), ("way", 1, 1, 2, 2, 4), ("way", 1, 2, 1, 1, 4),
            ("way", 2, 0, 2, 1, 7), ("way", 2, 2, 0, 1, 7),
        ])

    def test_a_row_where_the_price_alone_or_the_next_hand_alone_is_another(self):
        # Hand 3 is reached by 1 or by 2, at first by 1.
        lines = [(0, 1, 5), (0, 2, 5), (1, 3, 5), (2, 3, 6)]
        net = stepped(net_of(lines, [(10, 1, 3, 4), (14, 2, 3, 3)], hands=4), 20)
        rows = [row[4:] for row in rows_of(net, "way") if row[2:4] == (0, 3)]
        self.assertEqual(rows, [(1, 10), (1, 9), (2, 8)])

    def test_a_row_where_the_next_hand_alone_is_another(self):
        lines = [(0, 1, 5), (0, 2, 5), (1, 3, 5), (2, 3, 5)]
        changes = [(10, 1, 3, None), (10, 0, 1, None)]
        net = stepped(net_of(lines, changes, hands=4, raise_each=6), 20)
        self.assertEqual([row[4:] for row in rows_of(net, "way") if row[2:4] == (0, 3)], [(1, 10), (2, 10)])

    def test_no_row_of_a_hand_to_itself(self):
        net = stepped(net_of(ROW_OF_THREE, hands=3, raise_each=2), 12)
        self.assertEqual([row for row in rows_of(net, "way") if row[2] == row[3]], [])

    def test_the_own_generation_is_raised_at_multiples_above_0(self):
        net = net_of(PAIR, raise_each=3)
        marks = []
        for turn in range(11):
            net.step()
            marks.append(net.mark_of(1, 1))
        self.assertEqual(marks, [(turn // 3, 0) for turn in range(11)])

    def test_raised_in_each_turn_but_0(self):
        net = stepped(net_of(PAIR, raise_each=1), 1)
        self.assertEqual(net.mark_of(0, 0), (0, 0))
        self.assertEqual(stepped(net, 4).mark_of(0, 0), (4, 0))
        self.assertEqual(net.mark_of(1, 0), (3, 7))

    def test_what_is_asked_of_ways(self):
        net = net_of(ROW_OF_THREE, hands=3)
        self.assertEqual([net.next_of(0, 2), net.price_of(0, 2), net.mark_of(0, 2)], [None, None, None])
        self.assertEqual([net.next_of(0, 0), net.price_of(0, 0), net.mark_of(0, 0)], [None, 0, (0, 0)])
        stepped(net, 3)
        self.assertEqual([net.next_of(0, 2), net.price_of(0, 2), net.mark_of(0, 2)], [1, 7, (0, 7)])
        self.assertEqual([net.next_of(2, 0), net.price_of(1, 2), net.mark_of(1, 0)], [1, 4, (0, 3)])


class TestWishes(unittest.TestCase):
    def granted(self, *wishes, **others):
        net = stepped(net_of(PAIR, wishes=wishes, **others), 1)
        return [row[5] for row in rows_of(net, "wish")]

    def test_in_the_order_of_the_list(self):
        wishes = [(0, 1, "begin", 0), (2, 0, "end", 1), (0, 0, "put", (1, "a")), (2, 1, "end", 0), (0, 0, "begin", 1)]
        net = stepped(net_of(PAIR, wishes=wishes), 3)
        self.assertEqual(rows_of(net, "wish"), [
            ("wish", 0, 1, "begin", 0, "ok"), ("wish", 0, 0, "put", (1, "a"), "shut"),
            ("wish", 0, 0, "begin", 1, "ok"), ("wish", 2, 0, "end", 1, "ok"), ("wish", 2, 1, "end", 0, "ok"),
        ])

    def test_what_the_state_does_not_let(self):
        begin, put, end = (0, 0, "begin", 1), (0, 0, "put", (1, "a")), (0, 0, "end", 1)
        self.assertEqual(self.granted(put, end, begin), ["shut", "shut", "ok"])
        self.assertEqual(self.granted(begin, begin, put, begin), ["ok", "open", "ok", "open"])
        self.assertEqual(self.granted(begin, end, end, put), ["ok", "ok", "shut", "shut"])
        self.assertEqual(self.granted(begin, end, begin, put, end), ["ok"] * 5)

    def test_streams_are_each_for_itself(self):
        wishes = [(0, 0, "begin", 1), (0, 1, "put", (0, "a")), (0, 0, "put", (2, "a")), (0, 0, "put", (1, "a"))]
        self.assertEqual(self.granted(*wishes, hands=3), ["ok", "shut", "shut", "ok"])

    def test_texts_are_cut_into_signs_of_eight(self):
        for many in (1, 7, 8, 9, 16, 17, 39, 40):
            text = "".join(chr(33 + place) for place in range(many))
            wishes = [(2, 0, "begin", 1), (2, 0, "put", (1, text)), (2, 0, "end", 1)]
            net = net_of(PAIR, wishes=wishes, places=16, room=16, window=16)
            net.run(60)
            cut = [signs(text[first:first + 8]) for first in range(0, many, 8)]
            self.assertEqual(read_of(net, 1, 0), [BEGIN] + cut + [END])

    def test_all_or_none_are_put(self):
        net = net_of(PAIR, wishes=[(2, 0, "put", (1, "a" * 40))])
        stepped(net, 20)
        self.assertEqual(read_of(net, 1, 0), [])
        self.assertEqual(rows_of(net, "here", "gone"), [])
        self.assertEqual(net.is_done(), True)

    def test_blanks_at_the_ends_stay(self):
        wishes = [(2, 0, "begin", 1), (2, 0, "put", (1, "  a       "))]
        net = net_of(PAIR, wishes=wishes)
        net.run(60)
        self.assertEqual(read_of(net, 1, 0), [BEGIN, signs("  a     "), signs("  ")])

    def test_what_a_name_is_asked_in_the_same_turn(self):
        for wishes, told in (
            ([(0, 1, "bind", "inn"), (0, 0, "ask", "inn")], 1),
            ([(0, 0, "ask", "inn"), (0, 1, "bind", "inn")], 1),
            ([(0, 1, "bind", "inn"), (0, 0, "bind", "inn"), (0, 0, "ask", "inn")], 0),
            ([(0, 1, "bind", "inn"), (0, 0, "free", "inn"), (0, 0, "ask", "inn")], None),
            ([(0, 0, "free", "inn"), (0, 1, "bind", "inn"), (0, 0, "ask", "inn")], 1),
            ([(0, 1, "bind", "mill"), (0, 0, "ask", "inn")], None),
        ):
            net = stepped(net_of(PAIR, wishes=wishes), 1)
            self.assertEqual(net.whose(0, "inn"), told)
            self.assertEqual([row[5] for row in rows_of(net, "wish")], ["ok"] * len(wishes))

    def test_hand_0_asks_without_a_parcel(self):
        net = stepped(net_of(PAIR, wishes=[(1, 1, "bind", "inn"), (3, 0, "ask", "inn")]), 8)
        self.assertEqual(rows_of(net, "here", "gone"), [])
        self.assertEqual(net.whose(0, "inn"), 1)

    def test_an_ask_without_a_way_is_gone(self):
        net = stepped(net_of(PAIR, wishes=[(0, 1, "ask", "inn")]), 9)
        self.assertEqual(rows_of(net, "gone"), [("gone", 0, 1, (0, 1, 3, ("ask", "inn", 0)), "none")])

    def test_what_is_bound_while_the_ask_is_on_its_way_is_told(self):
        wishes = [(3, 1, "ask", "inn"), (4, 1, "bind", "inn"), (5, 0, "bind", "inn")]
        self.assertEqual(stepped(net_of(PAIR, wishes=wishes), 7).whose(1, "inn"), 1)

    def test_found_no_longer_than_keep_behind_the_asking(self):
        net = net_of(PAIR, wishes=[(0, 1, "bind", "inn"), (2, 0, "ask", "inn")], keep=4)
        found = []
        for turn in range(10):
            net.step()
            found.append(net.whose(0, "inn"))
        self.assertEqual(found, [None, None, 1, 1, 1, 1, 1, None, None, None])

    def test_found_as_of_the_last_turn_taken(self):
        net = net_of(PAIR, wishes=[(0, 0, "bind", "inn"), (0, 0, "ask", "inn")], keep=0)
        self.assertEqual(net.whose(0, "inn"), None)
        self.assertEqual(stepped(net, 1).whose(0, "inn"), 0)
        self.assertEqual(stepped(net, 1).whose(0, "inn"), None)


class TestParcels(unittest.TestCase):
    def test_the_count_runs_out_on_the_way(self):
        for count, end in ((0, (0, 0)), (1, (1, 0)), (2, None)):
            net = net_of(ROW_OF_THREE, wishes=[(3, 0, "begin", 2)], hands=3, count=count, wait=50)
            stepped(net, 9)
            gone = [(row[2], row[3][2]) for row in rows_of(net, "gone")]
            self.assertEqual(gone, [] if end is None else [end])
            self.assertEqual([row[4] for row in rows_of(net, "gone")], [] if end is None else ["count"])
            self.assertEqual(len(read_of(net, 2, 0)), 1 if end is None else 0)

    def test_a_full_gate(self):
        # From turn 4 on all letters to hand 1 are lost: so the link never empties.
        wishes = [(4, 0, "begin", 1), (4, 0, "put", (1, "a" * 40))]
        roads = [(0, 1, [(1,)] * 4 + [()] * 56)]
        net = stepped(net_of(PAIR, roads=roads, wishes=wishes, room=1, places=2, window=9, wait=50), 12)
        gone = rows_of(net, "gone")
        self.assertEqual([(row[1], row[2], row[3][2], row[3][3][1], row[4]) for row in gone], [
            (7, 0, 3, 3, "full"), (8, 0, 3, 4, "full"), (9, 0, 3, 5, "full"),
        ])

    def test_the_same_parcel_waits_once(self):
        # The piece goes again in each turn, and is the same each time.
        roads = [(0, 1, [(1,)] * 4 + [()] * 56)]
        net = net_of(PAIR, roads=roads, wishes=[(4, 0, "begin", 1)], room=1, places=2, window=9, wait=1)
        stepped(net, 20)
        self.assertEqual(rows_of(net, "gone"), [])
        self.assertEqual({row[4] for row in rows_of(net, "sent") if row[1] > 4 and row[2] == 0}, {
            ((0, (1, 0, 2, ("piece", 0, BEGIN))),),
        })

    def test_arrived_then_streams_by_goals_then_read_by_sources_then_asks(self):
        lines = [(0, 1, 1), (1, 2, 1), (1, 3, 1)]
        wishes = [
            (4, 3, "begin", 1), (4, 0, "begin", 1), (4, 2, "bind", "inn"), (5, 1, "ask", "inn"),
            (5, 1, "begin", 3), (5, 1, "begin", 0), (4, 2, "begin", 0),
        ]
        net = stepped(net_of(lines, wishes=wishes, hands=4, count=1, room=16, places=16, wait=50), 6)
        rows = [row for row in rows_of(net, "here", "gone", "read", turn=5) if row[2] == 1]
        self.assertEqual(rows, [
            ("here", 5, 1, (1, 0, 0, ("piece", 0, BEGIN))),
            ("gone", 5, 1, (0, 2, 0, ("piece", 0, BEGIN)), "count"),
            ("here", 5, 1, (1, 3, 0, ("piece", 0, BEGIN))),
            ("read", 5, 1, 0, (BEGIN,)),
            ("read", 5, 1, 3, (BEGIN,)),
        ])
        sent = [row for row in rows_of(net, "sent", turn=5) if row[2] == 1]
        self.assertEqual(sent, [
            ("sent", 5, 1, 0, (
                (0, (0, 1, 0, ("piece", 0, BEGIN))), (1, (0, 1, 0, ("got", 1))), (2, (0, 1, 0, ("ask", "inn", 5))),
            ), 1),
            ("sent", 5, 1, 2, (), 1),
            ("sent", 5, 1, 3, ((0, (3, 1, 0, ("piece", 0, BEGIN))), (1, (3, 1, 0, ("got", 1)))), 1),
        ])

    def test_the_gate_gives_out_as_many_as_the_link_takes(self):
        wishes = [(4, 0, "begin", 1), (4, 0, "put", (1, "a" * 40))]
        net = net_of(PAIR, roads=[(0, 1, [(1,)] * 4 + [()] * 56)], wishes=wishes, room=3, places=16, window=9, wait=50)
        stepped(net, 14)
        many = [len(row[4]) for row in rows_of(net, "sent") if row[2] == 0]
        self.assertEqual(many, [0, 0, 0, 0, 1, 2] + [3] * 8)

    def test_no_hand_sees_what_another_one_does_in_the_same_turn(self):
        # Three hands in a row, each way told both ways: what comes about at one end is at the other two turns later.
        for lines in (ROW_OF_THREE, [(0, 1, 3), (0, 2, 4)]):
            middle = 1 if lines is ROW_OF_THREE else 0
            ends = [hand for hand in range(3) if hand != middle]
            wishes = [(4, ends[0], "begin", ends[1]), (4, ends[1], "begin", ends[0])]
            net = stepped(net_of(lines, wishes=wishes, hands=3, wait=50), 9)
            self.assertEqual([row[1:4] for row in rows_of(net, "read")], [(6, ends[0], ends[1]), (6, ends[1], ends[0])])
            got = [row[1:3] for row in rows_of(net, "here") if row[3][3][0] == "got"]
            self.assertEqual(got, [(8, ends[0]), (8, ends[1])])


class TestRows(unittest.TestCase):
    def test_the_order_within_a_turn(self):
        words = [("begin", 2), ("put", (2, "a")), ("end", 2)]
        wishes = [(turn, 0, word, what) for turn in range(20) for word, what in words]
        net = net_of(ROW_OF_THREE, [(8, 0, 1, 5), (12, 1, 2, 1)], wishes=wishes, hands=3, raise_each=4, places=16)
        stepped(net, 20)
        steps = {"came": 2, "way": 3, "wish": 4, "here": 5, "gone": 5, "read": 5, "sent": 6}
        order = [(row[1], steps[row[0]], row[2] if row[0] != "wish" else 0) for row in net.rows()]
        self.assertEqual(order, sorted(order))
        self.assertEqual({row[0] for row in net.rows()}, set(steps))

    def test_rows_of_all_turns_from_the_first_on(self):
        net = net_of(PAIR)
        self.assertEqual(net.rows(), [])
        ahead = []
        for turn in range(6):
            net.step()
            rows = net.rows()
            self.assertEqual(rows[:len(ahead)], ahead)
            self.assertEqual({row[1] for row in rows[len(ahead):]}, {turn})
            ahead = rows

    def test_lists_that_were_told_change_nothing(self):
        net = stepped(net_of(PAIR, wishes=[(0, 0, "begin", 1)]), 8)
        ahead = net.rows()
        told = net.rows()
        told.clear()
        self.assertEqual(net.rows(), ahead)
        net.rows().append(("way", 1, 0, 1, 1, 1))
        self.assertEqual(net.rows(), ahead)

    def test_rows_are_tuples_all_through(self):
        def parts(thing):
            self.assertIn(type(thing), (tuple, int, str, type(None)))
            for part in thing if isinstance(thing, tuple) else ():
                parts(part)

        wishes = [(4, 0, "begin", 1), (5, 0, "put", (1, "a" * 40)), (6, 1, "ask", "inn"), (6, 0, "ask", "inn")]
        net = stepped(net_of(PAIR, [(3, 0, 1, 8)], wishes=wishes), 20)
        for row in net.rows():
            parts(row)


class TestDone(unittest.TestCase):
    def test_with_nothing_ahead(self):
        for lines in ([], PAIR):
            net = net_of(lines)
            self.assertIs(net.is_done(), True)
            self.assertEqual(net.run(50), 0)
            self.assertEqual([net.turn, net.rows()], [0, []])

    def test_ahead_of_the_last_change(self):
        net = net_of(PAIR, [(4, 0, 1, 3), (2, 0, 1, 5)])
        for turn in range(5):
            self.assertIs(net.is_done(), False)
            net.step()
        self.assertIs(net.is_done(), True)
        self.assertEqual(net_of(PAIR, [(0, 0, 1, 7)]).run(9), 1)

    def test_ahead_of_the_last_wish(self):
        for word, what in (("bind", "inn"), ("free", "inn"), ("ask", "inn"), ("end", 1), ("put", (1, "a"))):
            net = net_of(PAIR, [(1, 0, 1, 3)], wishes=[(6, 0, word, what), (2, 0, word, what)])
            self.assertEqual(net.run(50), 7)

    def test_a_stream_under_way(self):
        net = net_of(PAIR, wishes=[(4, 0, "begin", 1)])
        done = []
        for turn in range(9):
            done.append(net.is_done())
            net.step()
        # What is known to be there is so at the hand that put it: not till its answer came.
        self.assertEqual(done, [False] * 7 + [True] * 2)
        self.assertEqual(rows_of(net, "read"), [("read", 5, 1, 0, (BEGIN,))])

    def test_each_stream_counts(self):
        wishes = [(4, 0, "begin", 1), (4, 2, "begin", 1), (4, 1, "begin", 0)]
        net = net_of([(0, 1, 1)], wishes=wishes, hands=3)
        self.assertEqual(net.run(40), 40)
        self.assertIs(net.is_done(), False)

    def test_done_no_more_when_stepped_on_to_nothing(self):
        net = net_of(PAIR, wishes=[(4, 0, "begin", 1)])
        self.assertEqual(net.run(100), 7)
        stepped(net, 3)
        self.assertIs(net.is_done(), True)
        self.assertEqual([net.turn, net.run(100)], [10, 10])

    def test_run_to_a_number_of_turns(self):
        net = net_of(PAIR, wishes=[(50, 0, "begin", 1)])
        self.assertEqual([net.run(0), net.turn], [0, 0])
        self.assertEqual([net.run(7), net.turn], [7, 7])
        self.assertEqual([net.run(7), net.run(3), net.run(0), net.turn], [7, 7, 7, 7])
        self.assertEqual([net.run(9), net.turn], [9, 9])
        self.assertEqual([net.run(200), net.turn], [53, 53])

    def test_run_takes_the_same_steps(self):
        wishes = [(4, 0, "begin", 1), (5, 0, "put", (1, "a" * 40)), (6, 1, "ask", "inn")]
        one, other = net_of(PAIR, wishes=wishes), net_of(PAIR, wishes=wishes)
        one.run(13)
        self.assertEqual(one.rows(), stepped(other, one.turn).rows())
        for most in range(14, 60, 3):
            one.run(most)
        self.assertEqual(one.rows(), stepped(other, one.turn - other.turn).rows())

    def test_a_step_tells_nothing(self):
        net = net_of(PAIR)
        self.assertIsNone(net.step())
        self.assertEqual(net.turn, 1)
