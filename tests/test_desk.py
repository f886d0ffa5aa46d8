"""Stage 10: the desk, promises 10.5 and 10.6: each of its rows, and what it refuses."""

import unittest

from roadnet.desk import Desk
from roadnet.errors import BadLine, BadMeasures, BadRoad, BadWish, NoRow, RoadError
from roadnet.net import Net
from roadnet.reckon import done_turn, settled_turn
from roadnet.roads import fairness
from roadnet.texts import net_text, read_net, row_text, thing_text
from roadnet.ways import chain
from tests.nets import NAMES, fair_net, wild_net

# A row of three hands; all of the stream is there by turn 8, and known to be there by turn 10.
NET = "\n".join([
    "measures 3 1 4 40 5 4 4 4 30 6", "line 0 1 3", "line 1 2 4", "wish 0 1 bind inn", "wish 3 0 begin 2",
    "wish 3 0 put 2 good day, all", "wish 3 0 end 2", "wish 3 2 ask inn",
])
TURNS = 11
ASKING = [
    "turn", "done", "text", "next 0 2", "price 0 2", "mark 0 2", "chain 0 2", "found 2 inn", "read 2 0", "rows 0",
    "settled", "doneby",
]


def desk_of(text, turns=0):
    desk = Desk()
    desk.say("net\n" + text)
    if turns:
        desk.say(f"run {turns}")
    return desk


class DeskCase(unittest.TestCase):
    def said(self, desk, **answers):
        for row, answer in answers.items():
            row = row.replace("_", " ").strip()
            with self.subTest(row):
                self.assertEqual(desk.say(row), answer)

    def refused(self, desk, row, error=NoRow, at=0):
        with self.subTest(row=row):
            with self.assertRaises(error) as caught:
                desk.say(row)
            self.assertIs(type(caught.exception), error)
            if at is not None:
                self.assertEqual(caught.exception.at, at)


class TestRun(DeskCase):
    def test_a_net_is_begun(self):
        desk = Desk()
        self.assertEqual(desk.say("net\n" + NET), "ok")
        self.said(desk, turn="0", done="no", text=NET)

    def test_run_tells_how_many_are_done(self):
        desk = desk_of(NET)
        self.said(desk, run_0="0", turn="0")
        self.said(desk, run_4="4", turn="4", done="no")
        self.said(desk, run_4="4", run_2="4", run_0="4", turn="4")
        self.said(desk, run_10000=str(TURNS), turn=str(TURNS), done="yes")
        self.said(desk, run_3=str(TURNS), run_9999=str(TURNS))

    def test_run_to_where_nothing_is_ahead(self):
        desk = desk_of("measures 3 1 4 40 5 4 4 4 30 6\nline 0 1 3")
        self.said(desk, done="yes", run_10="0", turn="0", rows_0="-")

    def test_run_to_just_so_many(self):
        desk = desk_of(NET)
        for turn in range(1, TURNS + 1):
            self.assertEqual(desk.say("turn"), str(turn - 1))
            self.assertEqual(desk.say("done"), "no")
            self.assertEqual(desk.say(f"run {turn}"), str(turn))
        self.assertEqual(desk.say("done"), "yes")

    def test_the_text_stays(self):
        desk = desk_of(NET)
        for turn in (0, 5, 1000):
            desk.say(f"run {turn}")
            self.assertEqual(desk.say("text"), NET)

    def test_another_net_in_the_place_of_the_old_one(self):
        desk = desk_of(NET, 1000)
        other = NET.replace("line 0 1 3", "line 0 1 9").replace("wish 3 0", "wish 5 0")
        self.assertEqual(desk.say("net\n" + other), "ok")
        self.said(desk, turn="0", done="no", text=other, next_0_2="none", read_2_0="-", rows_0="-", found_2_inn="none")
        self.said(desk, run_3="3", price_0_1="9")
        self.assertEqual(desk.say("net\n" + other), "ok")
        self.said(desk, turn="0", price_0_1="none")

    def test_two_desks_beside_one_another(self):
        one, other = desk_of(NET), desk_of(NET.replace("line 0 1 3", "line 0 1 9"))
        self.said(one, run_5="5", price_0_1="3")
        self.said(other, turn="0", price_0_1="none", run_3="3", price_0_1_="9")
        self.said(one, turn="5", price_0_1="3")


class TestWays(DeskCase):
    def test_ahead_of_all_turns(self):
        desk = desk_of(NET)
        self.said(desk, next_0_2="none", price_0_2="none", mark_0_2="none", chain_0_2="0")
        self.said(desk, next_0_0="none", price_0_0="0", mark_0_0="0 0", chain_0_0="0")

    def test_behind_some(self):
        desk = desk_of(NET, 2)
        self.said(desk, next_0_1="1", price_0_1="3", mark_0_1="0 3", chain_0_1="0 1", chain_0_2="0")
        desk.say("run 3")
        self.said(desk, next_0_2="1", price_0_2="7", mark_0_2="0 7", chain_0_2="0 1 2", chain_2_0="2 1 0")
        self.said(desk, next_2_0="1", next_1_0="0", price_1_2="4", mark_1_1="0 0", next_1_1="none")

    def test_a_generation_behind(self):
        desk = desk_of(NET.replace("measures 3 1 4 40", "measures 3 1 4 2") + "\nwish 50 0 free inn", 9)
        self.said(desk, mark_0_0="4 0", mark_1_0="3 3", mark_2_0="3 7", mark_0_2="3 7")

    def test_a_chain_that_ends_on_the_way(self):
        # Hand 1 has missed hand 2, and hand 0 hasn't heard of it yet.
        desk = desk_of(NET.replace("wish 0 1", "change 5 1 2 none\nwish 0 1"), 11)
        self.said(desk, chain_0_2="0 1", next_1_2="none", next_0_2="1", mark_1_2="0 4")
        self.said(desk, run_12="12", next_0_2="none", price_0_2="none", mark_0_2="0 7", chain_0_2="0")


class TestNames(DeskCase):
    def test_found_from_the_answer_on_no_longer_than_keep(self):
        desk = desk_of(NET + "\nwish 50 0 free inn")
        found = []
        for turn in range(1, 13):
            desk.say(f"run {turn}")
            found.append(desk.say("found 2 inn"))
        # Asked in turn 3, the answer comes in turn 7; keep is 6.
        self.assertEqual(found, ["none"] * 7 + ["1"] * 3 + ["none"] * 2)
        self.said(desk, found_0_inn="none", found_2_mill="none", found_2_abcdefgh="none")


class TestRead(DeskCase):
    def test_what_is_read_so_far(self):
        desk = desk_of(NET)
        self.said(desk, read_2_0="-", read_0_2="-", read_1_0="-", read_2_2="-")
        self.said(desk, run_6="6", read_2_0="begin", run_7="7", read_2_0_="begin\nsigns 8 good day")
        desk.say("run 100")
        self.said(desk, read_2_0="begin\nsigns 8 good day\nsigns 5 , all\nend", read_0_2="-", read_1_0="-")

    def test_each_stream_for_itself(self):
        desk = desk_of(NET + "\nwish 3 1 begin 2\nwish 4 2 begin 0\nwish 4 2 put 0  x ", 100)
        self.said(desk, read_2_1="begin", read_0_2="begin\nsigns 3  x ", read_1_2="-")


class TestRows(DeskCase):
    def test_the_rows_of_a_turn(self):
        desk = desk_of(NET, 100)
        self.said(desk, rows_0="\n".join([
            "wish 0 1 ok bind inn", "sent 0 0 1 0", "sent 0 1 0 0", "sent 0 1 2 0", "sent 0 2 1 0",
        ]))
        self.said(desk, rows_5="\n".join([
            "came 5 0 1 4; 0 2 3 ask inn 3", "came 5 1 0 4; 2 0 4 piece 1 signs 8 good day", "came 5 1 2 4",
            "came 5 2 1 4; 2 0 3 piece 0 begin",
            "here 5 0 0 2 3 ask inn 3", "here 5 2 2 0 3 piece 0 begin", "read 5 2 0; begin",
            "sent 5 0 1 1; 1 2 0 4 piece 1 signs 8 good day; 2 2 0 4 told inn 1 3; 3 2 0 4 piece 2 signs 5 , all",
            "sent 5 1 0 2; 0 0 2 3 ask inn 3",
            "sent 5 1 2 1; 0 2 0 3 piece 0 begin; 1 2 0 3 piece 1 signs 8 good day",
            "sent 5 2 1 1; 1 0 2 4 got 1",
        ]))

    def test_turns_that_are_not_done_have_none(self):
        desk = desk_of(NET)
        self.said(desk, rows_0="-", rows_10000="-")
        desk.say("run 3")
        self.assertNotEqual(desk.say("rows 2"), "-")
        self.said(desk, rows_3="-", rows_4="-")

    def test_a_turn_that_told_nothing(self):
        desk = desk_of("measures 3 1 4 40 5 4 4 4 30 6\nwish 5 0 bind inn", 6)
        self.said(desk, rows_4="-", rows_5="wish 5 0 ok bind inn")


class TestReckoned(DeskCase):
    def net(self, *rows, miss=3, raise_each=12, count=3, places=3, window=1, wait=24):
        measures = f"measures 3 2 {miss} {raise_each} {count} 4 {places} {window} {wait} 5"
        return desk_of("\n".join([measures, "line 0 1 1", "line 1 2 1"] + list(rows)))

    def test_without_changes_wishes_and_roads(self):
        # lag 2, miss 3, fairness 1, twice raise 24, (2 * 3 + 2) * 3; then two crossings of 2 * (1 + 1) * 2 * 3.
        self.said(self.net(), settled="54", doneby=str(54 + 48))

    def test_behind_the_last_change_alone(self):
        desk = self.net("change 40 0 1 2", "change 7 0 1 2")
        self.said(desk, settled="94", doneby=str(94 + 48))
        self.said(self.net("change 0 0 1 2"), settled="54", doneby=str(54 + 48))

    def test_behind_the_last_wish(self):
        bind = ["wish 90 0 bind inn", "wish 8 0 free inn"]
        self.said(self.net(*bind), settled="54", doneby=str(90 + 54 + 48))
        self.said(self.net("change 40 0 1 2", *bind), settled="94", doneby=str(90 + 54 + 48))
        self.said(self.net("change 100 0 1 2", *bind), settled="154", doneby=str(100 + 54 + 48))

    def test_with_streams_and_asks(self):
        # Four keys: 2 * (3 + 1) * 2 * 3 = 48 turns a crossing; three things.
        wishes = ["wish 10 0 begin 2", "wish 10 0 put 2 good day, all", "wish 11 1 ask inn"]
        self.said(self.net(*wishes, wait=48), settled="54", doneby=str(11 + 54 + 96 + 3 * (1 + 48 + 4 * 48 + 4)))
        self.said(self.net(*wishes, wait=47), settled="54", doneby="none")

    def test_with_the_greatest_fairness_of_all_told_roads(self):
        roads = ["road 0 1 1/-", "road 1 0 1/-/-/1", "road 2 1 1"]
        # A fairness of 3: a letter takes 5 turns.
        desk = self.net(*roads, miss=5, raise_each=20, wait=40)
        self.said(desk, settled=str(2 + 5 + 3 + 40 + 8 * 5), doneby=str(2 + 5 + 3 + 40 + 8 * 5 + 2 * 40))
        self.said(self.net(*roads, miss=4, raise_each=20, wait=40), settled="none", doneby="none")
        self.said(self.net("road 0 1 none", "road 1 0 1,2"), settled="54", doneby="102")

    def test_a_road_that_never_brings_a_letter(self):
        for road in ("road 0 1 -", "road 2 1 -/-/-"):
            desk = self.net("road 1 0 1", road, miss=400, raise_each=1000, count=60, wait=10000)
            self.said(desk, settled="none", doneby="none")

    def test_where_measures_do_not_bear_it_out(self):
        for others in ({"miss": 2}, {"raise_each": 11}, {"count": 2}):
            self.said(self.net(**others), settled="none", doneby="none")
        for others in ({"wait": 23}, {"places": 2}, {"window": 2}):
            self.said(self.net(**others), settled="54", doneby="none")
        self.said(self.net(miss=4), settled="55")
        self.said(self.net(raise_each=13), settled="56")

    def test_the_same_at_each_turn(self):
        desk = self.net("change 40 0 1 2", "wish 90 0 bind inn")
        for turn in (0, 20, 60, 1000):
            desk.say(f"run {turn}")
            self.said(desk, settled="94", doneby=str(90 + 54 + 48))

    def test_as_it_is_reckoned_of_many_nets(self):
        for seed in range(40):
            measures, lines, changes, roads, wishes = fair_net(seed)[1]
            desk = desk_of(net_text(measures, lines, changes, roads, wishes))
            fair = max([fairness(road[2]) for road in roads], default=1)
            last_change = max([change[0] for change in changes], default=0)
            last = max([last_change] + [wish[0] for wish in wishes])
            self.assertEqual(desk.say("settled"), str(settled_turn(measures, fair, last_change)))
            self.assertEqual(desk.say("doneby"), str(done_turn(measures, fair, last, wishes)))


class TestBesideANet(DeskCase):
    def test_answers_are_those_of_the_net(self):
        for seed in range(12):
            plan = wild_net(seed)
            text = net_text(*plan)
            desk, net = desk_of(text), Net(*read_net(text))
            for turns in (0, 1, 7, 40, 90):
                self.assertEqual(desk.say(f"run {turns}"), str(net.run(turns)))
                self.same(desk, net, plan[0].hands)
                self.assertEqual(desk.say("text"), text)

    def same(self, desk, net, hands):
        def word(number):
            return "none" if number is None else str(number)

        next_ofs = [lambda goal, hand=hand: net.next_of(hand, goal) for hand in range(hands)]
        for hand in range(hands):
            for goal in range(hands):
                self.assertEqual(desk.say(f"next {hand} {goal}"), word(net.next_of(hand, goal)))
                self.assertEqual(desk.say(f"price {hand} {goal}"), word(net.price_of(hand, goal)))
                mark = net.mark_of(hand, goal)
                self.assertEqual(desk.say(f"mark {hand} {goal}"), f"{mark[0]} {mark[1]}" if mark else "none")
                self.assertEqual(desk.say(f"chain {hand} {goal}"), " ".join(map(str, chain(next_ofs, hand, goal))))
                read = [row[4] for row in net.rows() if row[0] == "read" and row[2:4] == (hand, goal)]
                self.assertEqual(desk.say(f"read {hand} {goal}"), "\n".join(map(thing_text, sum(read, ()))) or "-")
            for name in NAMES:
                self.assertEqual(desk.say(f"found {hand} {name}"), word(net.whose(hand, name)))
        for turn in range(net.turn + 1):
            rows = [row_text(row) for row in net.rows() if row[1] == turn]
            self.assertEqual(desk.say(f"rows {turn}"), "\n".join(rows) or "-")
        self.assertEqual(desk.say("done"), "yes" if net.is_done() else "no")


NO_TEXTS = [None, 5, True, [], ["turn"], ("turn",), {}, b"turn"]
NO_ROWS = ["", " ", "\n", "Turn", "turns", "step", "is_done", "net", "net ", "nets", "NET\n" + NET, " net\n" + NET, NET]
NO_ROWS += ["turn\n", "\nturn", "turn\nturn", "turn\t", "-", "ok", "none", "say turn", "whose 2 inn"]
FEW_OR_MANY = ["run", "run 1 2", "rows", "rows 1 2", "next", "next 0", "next 0 1 2", "price 0", "price 0 1 2", "mark 0"]
FEW_OR_MANY += ["mark 0 1 2", "chain 0", "chain 0 1 2", "found 0", "found inn", "found 0 inn inn", "read 0"]
FEW_OR_MANY += ["read 0 1 2", "turn 1", "done 1", "text 1", "settled 1", "doneby 1", "settled now", "turn none"]
TWO_BLANKS = ["run  1", "run 1 ", " run 1", "next  0 1", "next 0  1", "next 0 1 ", "turn ", " turn", "found 0  inn"]
TWO_BLANKS += ["read 0 1\n", "found 0 inn ", "rows 0 ", "chain 0\t1"]
NO_NUMBERS = ["-1", "+1", "01", "00", "1.0", "", "a", "none", "1_0", "0x1", "\u0661"]


class TestRefused(DeskCase):
    def refused_all(self, desk):
        for row in NO_TEXTS + NO_ROWS + FEW_OR_MANY + TWO_BLANKS:
            self.refused(desk, row)
        for number in NO_NUMBERS + ["10001", "99999", "100000", "010000"]:
            self.refused(desk, f"run {number}")
            self.refused(desk, f"rows {number}")
        for hand in NO_NUMBERS + ["3", "12", "100000"]:
            for word in ("next", "price", "mark", "chain", "read"):
                self.refused(desk, f"{word} {hand} 1")
                self.refused(desk, f"{word} 1 {hand}")
            self.refused(desk, f"found {hand} inn")
        for name in ("", "Inn", "inn1", "abcdefghi", "1", "in-n", "inn\t"):
            self.refused(desk, f"found 1 {name}")

    def refused_nets(self, desk):
        for text, at in (
            ("", 0), ("\n" + NET, 0), (NET + "\n", 8), (NET.replace("line 1 2 4", "line 1 2"), 2), ("measures", 0),
            (NET.replace("measures", "measure"), 0), (NET.replace("ask inn", "ask Inn"), 7), (NET + "\nline 0 2 3", 8),
        ):
            self.refused(desk, "net\n" + text, NoRow, at)
        self.refused(desk, "net\n" + NET.replace("measures 3", "measures 13"), BadMeasures, None)
        self.refused(desk, "net\n" + NET.replace("line 1 2 4", "line 2 1 4"), BadLine, 1)
        self.refused(desk, "net\n" + NET.replace("line 1 2 4", "line 1 2 4\nchange 3 0 2 4"), BadLine, 0)
        self.refused(desk, "net\n" + NET.replace("line 1 2 4", "line 1 2 4\nroad 2 1 1\nroad 2 0 1"), BadLine, 1)
        self.refused(desk, "net\n" + NET.replace("line 1 2 4", "line 1 2 4\nroad 2 1 2"), BadRoad, None)
        self.refused(desk, "net\n" + NET.replace("ask inn", "begin 2"), BadWish, 4)
        self.refused(desk, "net\n" + NET.replace("all", "a" * 40), BadWish, 2)

    def test_ahead_of_a_net(self):
        desk = Desk()
        for row in ASKING + ["run 3", "run 0"]:
            self.refused(desk, row)
        self.refused_all(desk)
        self.refused_nets(desk)
        for row in ASKING + ["run 3"]:
            self.refused(desk, row)
        self.assertEqual(desk.say("net\n" + NET), "ok")
        self.said(desk, turn="0", text=NET)

    def test_what_is_refused_changes_nothing(self):
        for turns in (0, 5, 1000):
            desk = desk_of(NET, turns)
            answers = [desk.say(row) for row in ASKING]
            self.refused_all(desk)
            self.assertEqual([desk.say(row) for row in ASKING], answers)
            self.refused_nets(desk)
            self.assertEqual([desk.say(row) for row in ASKING], answers)

    def test_behind_refusals_the_net_goes_on(self):
        desk, other = desk_of(NET), desk_of(NET)
        for turn in range(1, TURNS + 1):
            for row in ("run 10001", "run -1", "net\n", "net\n" + NET.replace("ask inn", "begin 2"), "next 0 3"):
                with self.assertRaises(RoadError):
                    desk.say(row)
            self.assertEqual(desk.say(f"run {turn}"), other.say(f"run {turn}"))
            self.assertEqual(desk.say(f"rows {turn - 1}"), other.say(f"rows {turn - 1}"))

    def test_hands_are_those_of_the_net_that_is_kept(self):
        desk = desk_of("measures 12 1 4 40 5 4 4 4 30 6")
        self.said(desk, next_11_10="none", chain_10_11="10", read_11_0="-")
        self.refused(desk, "next 12 0")
        desk.say("net\nmeasures 2 1 4 40 5 4 4 4 30 6")
        self.refused(desk, "next 0 2")
        self.said(desk, price_1_1="0", rows_10000="-", run_10000="0")
