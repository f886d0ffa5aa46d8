"""Stage 10: rows and nets as text, promises 10.1 to 10.4."""

import itertools
import unittest

from roadnet.errors import BadMeasures, NoRow
from roadnet.measures import Measures
from roadnet.net import Net
from roadnet.texts import net_text, read_net, row_text, thing_text
from tests.nets import fair_net, wild_net

BEGIN, END = ("begin",), ("end",)
PIECE = (3, 0, 9, ("piece", 12, ("signs", "a; b")))
GOT = (11, 10, 0, ("got", 0))
ASK = (0, 5, 60, ("ask", "inn", 10000))
TOLD = (5, 0, 59, ("told", "inn", 5, 10000))
TOLD_NONE = (5, 0, 59, ("told", "inn", None, 0))

NUMBERS = (5, 3, 20, 50, 9, 4, 4, 2, 30, 20)
HEAD = "measures 5 3 20 50 9 4 4 2 30 20"
LINES = [(0, 1, 3), (1, 2, None), (0, 3, 1000)]
CHANGES = [(7, 0, 3, 1), (0, 0, 1, None), (10000, 1, 2, 1000)]
ROADS = [(1, 0, [(1,)]), (3, 0, [(), (1, 2, 3)]), (0, 1, []), (2, 1, [()]), (1, 2, [(1, 1), (3,), (), ()])]
WISHES = [
    (10000, 0, "begin", 4), (0, 4, "end", 0), (3, 2, "put", (3, "good day")), (0, 1, "bind", "a"),
    (2, 0, "free", "abcdefgz"), (1, 0, "ask", "inn"),
]
TEXT = "\n".join([
    HEAD, "line 0 1 3", "line 1 2 none", "line 0 3 1000", "change 7 0 3 1", "change 0 0 1 none",
    "change 10000 1 2 1000", "road 1 0 1", "road 3 0 -/1,2,3", "road 0 1 none", "road 2 1 -", "road 1 2 1,1/3/-/-",
    "wish 10000 0 begin 4", "wish 0 4 end 0", "wish 3 2 put 3 good day", "wish 0 1 bind a", "wish 2 0 free abcdefgz",
    "wish 1 0 ask inn",
])


def written(plan):
    return net_text(*plan)


def kinds(thing):
    """A thing and the kinds of all in it: 1 and True are alike to ==."""
    if isinstance(thing, Measures):
        return kinds(thing.numbers())
    if isinstance(thing, (list, tuple)):
        return (type(thing), [kinds(part) for part in thing])
    return (type(thing), thing)


class TestThings(unittest.TestCase):
    def test_begin_and_end(self):
        self.assertEqual([thing_text(BEGIN), thing_text(END)], ["begin", "end"])

    def test_signs(self):
        for signs, text in (("a", "signs 1 a"), ("good day", "signs 8 good day"), (" ", "signs 1  ")):
            self.assertEqual(thing_text(("signs", signs)), text)
        self.assertEqual(thing_text(("signs", " ~ ; \\ ")), "signs 7  ~ ; \\ ")


class TestRows(unittest.TestCase):
    def test_came(self):
        self.assertEqual(row_text(("came", 7, 1, 0, 5, ())), "came 7 1 0 5")
        self.assertEqual(row_text(("came", 7, 11, 10, 0, (GOT,))), "came 7 11 10 0; 11 10 0 got 0")
        self.assertEqual(
            row_text(("came", 7, 1, 0, 5, (PIECE, ASK, GOT))),
            "came 7 1 0 5; 3 0 9 piece 12 signs 4 a; b; 0 5 60 ask inn 10000; 11 10 0 got 0",
        )

    def test_way(self):
        self.assertEqual(row_text(("way", 123, 1, 2, 3, 4567)), "way 123 1 2 3 4567")
        self.assertEqual(row_text(("way", 0, 1, 2, None, None)), "way 0 1 2 none none")

    def test_wish(self):
        for word, what, text in (
            ("begin", 3, "begin 3"), ("end", 0, "end 0"), ("put", (3, "a b"), "put 3 a b"),
            ("put", (0, "  "), "put 0   "), ("bind", "inn", "bind inn"), ("free", "inn", "free inn"),
            ("ask", "inn", "ask inn"),
        ):
            for told in ("ok", "shut", "open"):
                self.assertEqual(row_text(("wish", 9, 2, word, what, told)), f"wish 9 2 {told} {text}")

    def test_here(self):
        for parcel, text in (
            (PIECE, "3 0 9 piece 12 signs 4 a; b"), (GOT, "11 10 0 got 0"), (ASK, "0 5 60 ask inn 10000"),
            (TOLD, "5 0 59 told inn 5 10000"), (TOLD_NONE, "5 0 59 told inn none 0"),
            ((1, 0, 2, ("piece", 0, BEGIN)), "1 0 2 piece 0 begin"),
            ((1, 0, 2, ("piece", 0, END)), "1 0 2 piece 0 end"),
        ):
            self.assertEqual(row_text(("here", 8, 4, parcel)), f"here 8 4 {text}")

    def test_gone(self):
        for word in ("count", "none", "full"):
            self.assertEqual(row_text(("gone", 8, 4, TOLD_NONE, word)), f"gone 8 4 {word} 5 0 59 told inn none 0")

    def test_read(self):
        self.assertEqual(row_text(("read", 8, 4, 0, (BEGIN,))), "read 8 4 0; begin")
        things = (("signs", "; end"), ("signs", "  "), END, BEGIN)
        self.assertEqual(row_text(("read", 8, 4, 0, things)), "read 8 4 0; signs 5 ; end; signs 2   ; end; begin")
        self.assertEqual(row_text(("read", 8, 4, 0, ())), "read 8 4 0")

    def test_sent(self):
        self.assertEqual(row_text(("sent", 8, 4, 0, (), 77)), "sent 8 4 0 77")
        self.assertEqual(
            row_text(("sent", 8, 4, 0, ((12, TOLD), (13, PIECE)), 0)),
            "sent 8 4 0 0; 12 5 0 59 told inn 5 10000; 13 3 0 9 piece 12 signs 4 a; b",
        )

    def test_as_many_figures_as_needed(self):
        self.assertEqual(row_text(("way", 1234567, 1, 2, 3, 100000)), "way 1234567 1 2 3 100000")
        row = ("sent", 8, 4, 0, ((123456, GOT),), 1000000)
        self.assertEqual(row_text(row), "sent 8 4 0 1000000; 123456 11 10 0 got 0")

    def test_unlike_rows_are_written_unlike(self):
        texts = ("a", "a; end", "; end", "; begin", "a; signs", " 1 a", "1 a", "end", "a ")
        things = [("signs", text) for text in texts] + [BEGIN, END]
        parcels = [(1, 0, 2, ("piece", 0, thing)) for thing in things[:4]] + [GOT, ASK, TOLD, TOLD_NONE]
        rows = [("way", 1, 0, 1, by, price) for by in (None, 0, 1) for price in (None, 0, 1, 11)]
        for many in (0, 1, 2, 3):
            rows += [("read", 1, 2, 0, group) for group in itertools.product(things, repeat=many)]
        for many in (0, 1, 2):
            for group in itertools.product(parcels, repeat=many):
                rows += [("came", 1, 2, 0, 7, group), ("sent", 1, 2, 0, tuple(enumerate(group)), 7)]
                rows += [("sent", 1, 2, 0, tuple(enumerate(group, 1)), 7)]
        rows += [("here", 1, 2, parcel) for parcel in parcels]
        rows += [("gone", 1, 2, parcel, word) for parcel in parcels for word in ("count", "none", "full")]
        rows += [("wish", 1, 2, "put", (0, text), told) for text in ("a", " a", "a ", "0 a") for told in ("ok", "shut")]
        rows += [("wish", 1, 2, word, 0, "ok") for word in ("begin", "end")]
        rows += [("wish", 1, 2, word, name, "ok") for word in ("bind", "free", "ask") for name in ("a", "b", "ok")]
        self.assertEqual(len({row_text(row) for row in rows}), len(set(rows)))

    def test_unlike_rows_of_whole_nets(self):
        for seed in range(5):
            net = Net(*wild_net(seed))
            for _ in range(60):
                net.step()
            rows = net.rows()
            self.assertEqual(len({row_text(row) for row in rows}), len(set(rows)))
            self.assertNotIn("\n", "".join(row_text(row) for row in rows))


class TestWritten(unittest.TestCase):
    def test_a_net_of_all_sorts(self):
        self.assertEqual(net_text(Measures(*NUMBERS), LINES, CHANGES, ROADS, WISHES), TEXT)

    def test_a_net_of_nothing(self):
        self.assertEqual(net_text(Measures(*NUMBERS), [], [], [], []), HEAD)
        least, most = Measures(2, 1, 1, 1, 0, 1, 1, 1, 1, 0), Measures(12, 32, 400, 1000, 60, 16, 16, 60, 10000, 10000)
        self.assertEqual(net_text(least, [], [], [], []), "measures 2 1 1 1 0 1 1 1 1 0")
        self.assertEqual(net_text(most, [], [], [], []), "measures 12 32 400 1000 60 16 16 60 10000 10000")

    def test_what_is_handed_in_stays(self):
        measures, lists = Measures(*NUMBERS), [list(LINES), list(CHANGES), list(ROADS), list(WISHES)]
        net_text(measures, *lists)
        self.assertEqual(lists, [LINES, CHANGES, ROADS, WISHES])
        self.assertEqual(tuple(measures.numbers()), NUMBERS)


class TestReadAgain(unittest.TestCase):
    def read_again(self, plan):
        text = written(plan)
        told = read_net(text)
        self.assertEqual(kinds(told), kinds(tuple(plan)))
        self.assertIs(type(told[0]), Measures)
        self.assertEqual(written(told), text)

    def test_a_net_of_all_sorts(self):
        self.read_again((Measures(*NUMBERS), LINES, CHANGES, ROADS, WISHES))
        self.assertEqual(kinds(read_net(TEXT)), kinds((Measures(*NUMBERS), LINES, CHANGES, ROADS, WISHES)))

    def test_each_list_empty_or_not(self):
        for bits in itertools.product((0, 1), repeat=4):
            lists = [rows if bit else [] for rows, bit in zip((LINES, CHANGES, ROADS, WISHES), bits)]
            self.read_again((Measures(*NUMBERS), *lists))

    def test_many_nets(self):
        for seed in range(200):
            self.read_again(wild_net(seed))
            self.read_again(fair_net(seed)[1])

    def test_deeds(self):
        for deeds in ([], [()], [(), ()], [(1,)], [(1, 2, 3)], [(), (1,), ()], [(32, 1), (), (5,)], [(3,)] * 60):
            self.read_again((Measures(*NUMBERS), [], [], [(0, 1, deeds)], []))

    def test_texts_with_any_signs(self):
        texts = [" ", "  ", " a", "a ", "  a  b  ", "a" * 40, "none", "-", "1", "put 1 a", ";", "\\n", "\"'"]
        texts += [chr(sign) for sign in range(32, 127)]
        self.read_again((Measures(*NUMBERS), [], [], [], [(0, 1, "put", (0, text)) for text in texts]))

    def test_rows_that_are_no_good_ones_but_written_so(self):
        text = "\n".join([
            HEAD, "line 3 1 0", "line 99999 0 99999", "line 3 1 0", "change 99999 7 7 0", "road 0 0 0",
            "road 9 9 1,2,3,4,5/99999", "road 0 1 " + "/".join(["-"] * 61), "wish 99999 99 begin 99", "wish 0 0 end 0",
            "wish 0 1 put 1 " + "a" * 100,
        ])
        told = read_net(text)
        self.assertEqual(told[1], [(3, 1, 0), (99999, 0, 99999), (3, 1, 0)])
        self.assertEqual(told[2], [(99999, 7, 7, 0)])
        self.assertEqual(told[3], [(0, 0, [(0,)]), (9, 9, [(1, 2, 3, 4, 5), (99999,)]), (0, 1, [()] * 61)])
        self.assertEqual(told[4][2], (0, 1, "put", (1, "a" * 100)))
        self.assertEqual(written(told), text)

    def test_what_was_told_is_new_each_time(self):
        ahead = read_net(TEXT)
        for rows in ahead[1:]:
            rows.clear()
        self.assertEqual(kinds(read_net(TEXT)), kinds((Measures(*NUMBERS), LINES, CHANGES, ROADS, WISHES)))
        again = read_net(TEXT)
        again[3][1][2].append((1,))
        self.assertEqual(read_net(TEXT)[3], ROADS)


NO_NUMBERS = ["", "00", "01", "007", "+1", "-1", "1.0", "1_0", "a", "0x1", "123456", "000001", "none", "None", "-"]
NO_NUMBERS += ["1\t", "1,2", "\u0661", "\u00b2"]
NO_NAMES = ["", "Inn", "inn1", "abcdefghi", "in-n", "1", "a\t"]
NO_DEEDS = [
    "", "1,", ",1", "1,,2", "1/", "/1", "1//2", "/", ",", "--", "1,-", "-,1", "none/1", "1/none", "None", "01", "1,02",
    "+1", "123456", "1;2", "a", "[]", "1/2,", "none,none",
]

BAD_LINES = ["line", "line ", "line 0 1", "line 0 1 3 4", "line  0 1 3", "line 0  1 3", "line 0 1  3", "line 0 1 3 "]
BAD_LINES += [" line 0 1 3", "Line 0 1 3", "lines 0 1 3", "line,0,1,3", "line\t0 1 3", "0 1 3", ""]
BAD_LINES += [f"line {word} 1 3" for word in NO_NUMBERS] + [f"line 0 {word} 3" for word in NO_NUMBERS]
BAD_LINES += [f"line 0 1 {word}" for word in NO_NUMBERS if word != "none"]

BAD_CHANGES = ["change", "change 3 0 1", "change 3 0 1 4 5", "change  3 0 1 4", "change 3 0 1 4 ", "changes 3 0 1 4"]
for place in range(3):
    BAD_CHANGES += [" ".join(["change"] + ["1"] * place + [word] + ["1"] * (3 - place)) for word in NO_NUMBERS]
BAD_CHANGES += [f"change 3 0 1 {word}" for word in NO_NUMBERS if word != "none"]

BAD_ROADS = ["road", "road 0", "road 0 1", "road 0 1 ", "road 0 1 1 2", "road 0 1 1, 2", "road 0 1 1/ 2", "road 0  1 1"]
BAD_ROADS += [f"road {word} 1 1" for word in NO_NUMBERS] + [f"road 0 {word} 1" for word in NO_NUMBERS]
BAD_ROADS += [f"road 0 1 {word}" for word in NO_DEEDS] + ["road 0 1 none ", "road 0 1  none"]

BAD_WISHES = ["wish", "wish 0", "wish 0 1", "wish 0 1 ", "wish 0 1 begin", "wish 0 1 begin ", "wish 0 1 begin 2 3"]
BAD_WISHES += ["wish 0 1 begin 2 ", "wish 0 1 end 2 3", "wish 0 1  begin 2", "wish 0 1 begin  2", "wish  0 1 begin 2"]
BAD_WISHES += ["wish 0 1 put 2", "wish 0 1 put 2 ", "wish 0 1 put", "wish 0 1 put  a", "wish 0 1 put 2 a\tb"]
BAD_WISHES += ["wish 0 1 put 2 \x7f", "wish 0 1 put 2 \u00e4", "wish 0 1 read 2", "wish 0 1 Begin 2", "wish 0 begin 2"]
BAD_WISHES += ["wish 0 1 bind inn inn", "wish 0 1 ask inn ", "wish 0 1 ask  inn", "wish 0 1 free"]
BAD_WISHES += ["wish 0 1 ok ask inn", "wish 0 1 inn", "wish 0 1 ask", "wish 0 1 3"]
BAD_WISHES += [f"wish {word} 1 ask inn" for word in NO_NUMBERS] + [f"wish 0 {word} ask inn" for word in NO_NUMBERS]
BAD_WISHES += [f"wish 0 1 {deed} {word}" for deed in ("begin", "end") for word in NO_NUMBERS]
BAD_WISHES += [f"wish 0 1 put {word} a" for word in NO_NUMBERS]
BAD_WISHES += [f"wish 0 1 {deed} {name}" for deed in ("bind", "free", "ask") for name in NO_NAMES]

BAD_HEADS = ["", "measures", "measures ", "measure 5 3 20 50 9 4 4 2 30 20", HEAD + " ", HEAD + " 1", " " + HEAD]
BAD_HEADS += [HEAD[:-3], HEAD.replace(" 3 ", "  3 "), HEAD.replace(" ", "\t"), "line 0 1 3", "wish 0 1 ask inn", "net"]
for place in range(10):
    for bad in NO_NUMBERS:
        BAD_HEADS.append(" ".join(["measures"] + [bad if at == place else "5" for at in range(10)]))

GOOD_ROWS = [["line 0 1 3"] * 3, ["change 3 0 1 4"] * 3, ["road 0 1 1"] * 3, ["wish 0 1 ask inn"] * 3]


class TestRefused(unittest.TestCase):
    def refused(self, text, at):
        with self.subTest(text=text):
            with self.assertRaises(NoRow) as caught:
                read_net(text)
            self.assertEqual(caught.exception.at, at)

    def test_the_first_row_no_measures(self):
        for head in BAD_HEADS:
            self.refused(head, 0)
            self.refused("\n".join([head, "line 0 1 3"]), 0)
            self.refused("\n".join([head, "no row"]), 0)

    def test_rows_that_are_none_at_each_place(self):
        for kind, bad_rows in enumerate((BAD_LINES, BAD_CHANGES, BAD_ROADS, BAD_WISHES)):
            for bad in bad_rows:
                for place in (0, 1, 3):
                    groups = [list(group) for group in GOOD_ROWS]
                    groups[kind].insert(place, bad)
                    self.refused("\n".join([HEAD] + sum(groups, [])), 1 + 3 * kind + place)

    def test_each_by_itself_and_last(self):
        for bad in BAD_LINES + BAD_CHANGES + BAD_ROADS + BAD_WISHES:
            self.refused(HEAD + "\n" + bad, 1)

    def test_the_first_of_several(self):
        self.refused("\n".join([HEAD, "line 0 1 3", "line 0 1", "line 0 1", "change"]), 2)
        self.refused("\n".join([HEAD, "wish 0 1 ask inn", "line 0 1 3", "line"]), 2)
        self.refused("\n".join([HEAD, "line", "wish 0 1 ask inn", "line 0 1 3"]), 1)

    def test_rows_out_of_order(self):
        rows = [group[0] for group in GOOD_ROWS]
        for first, second in itertools.combinations(range(4), 2):
            self.assertEqual(written(read_net("\n".join([HEAD, rows[first], rows[second]])))[:len(HEAD)], HEAD)
            self.refused("\n".join([HEAD, rows[second], rows[first]]), 2)
            self.refused("\n".join([HEAD, rows[first], rows[second], rows[first]]), 3)
        for row in rows:
            self.refused("\n".join([row, HEAD]), 0)
            self.refused("\n".join([HEAD, row, HEAD]), 2)
        self.refused("\n".join([HEAD, HEAD]), 1)

    def test_empty_rows(self):
        self.refused("", 0)
        self.refused("\n", 0)
        self.refused("\n" + HEAD, 0)
        self.refused(HEAD + "\n", 1)
        self.refused(HEAD + "\n\nline 0 1 3", 1)
        self.refused(TEXT + "\n", TEXT.count("\n") + 1)
        self.refused(TEXT.replace("\n", "\r\n"), 0)

    def test_what_is_no_text(self):
        for thing in (None, 5, True, [], [HEAD], (HEAD,), {}, HEAD.encode()):
            self.refused(thing, 0)

    def test_measures_out_of_their_bounds(self):
        for place in range(10):
            for number in ("99999", "0"):
                words = HEAD.split(" ")
                words[place + 1] = number
                head = " ".join(words)
                if place in (4, 9) and number == "0":
                    self.assertEqual(written(read_net(head)), head)
                    continue
                with self.assertRaises(BadMeasures):
                    read_net(head)
                with self.assertRaises(BadMeasures):
                    read_net(head + "\nline 9 9 9999\nwish 3 2 put 2 a")
                self.refused(head + "\nline 0 1 3\nline 0 1", 2)
                self.refused(head + "\n", 1)
