"""Stage 7: streams of things, promises 7.1 to 7.5, and 0.2 where it speaks of them."""

import itertools
import random
import unittest

from roadnet.errors import BadThing, NotNow, RoadError
from roadnet.talk import Taker, Teller, talk_turns

BEGIN, END = ("begin",), ("end",)
ALL_SIGNS = "".join(chr(number) for number in range(ord(" "), ord("~") + 1))


def signs(text):
    return ("signs", text)


def things_of(many):
    """Things that may be put one behind the other into a new stream, no two signs alike."""
    row = [BEGIN, *[signs(f"s{place}") for place in range(1, many)]]
    for place in range(5, many, 7):
        row[place] = END
    for place in range(6, many, 7):
        row[place] = BEGIN
    return row


def filled(many, window=60, wait=10):
    teller = Teller(window, wait)
    for thing in things_of(many):
        teller.put(thing)
    return teller


NO_THINGS = (
    None, 0, True, "begin", "", [], ["begin"], ["signs", "a"], {"begin": 1}, (),
    ("",), ("start",), ("Begin",), ("begin ",), (None,), (0,), (("begin",),), (["begin"],), ("start", "a"), (7, "a"),
    ("begin", ""), ("begin", "a"), ("begin", None), ("begin", "begin"), ("end", ""), ("end", "a"), ("end", None),
    ("signs",), ("signs", ""), ("signs", "123456789"), ("signs", "a" * 40), ("signs", "a", "b"), ("signs", "a", ""),
    ("signs", None), ("signs", 7), ("signs", True), ("signs", ["a"]), ("signs", ("a",)), ("signs", b"a"), ("signs", ()),
    ("signs", "\n"), ("signs", "\t"), ("signs", "abc\n"), ("signs", "a\tb"), ("signs", "\x1f"), ("signs", "\x7f"),
    ("signs", "a\x00"), ("signs", "\u00e4"), ("signs", "ab\u20ac"), ("signs", "\u00a0"),
    ("a", "signs"), (None, "a"),
)


class StreamCase(unittest.TestCase):
    def not_now(self, teller, thing, state):
        with self.assertRaises(NotNow) as caught:
            teller.put(thing)
        self.assertEqual(caught.exception.state, state)


class TestPut(StreamCase):
    def test_shut_and_empty_at_first(self):
        for window, wait in ((1, 1), (60, 10 ** 6)):
            teller = Teller(window, wait)
            self.assertEqual((teller.stands(), teller.many(), teller.base, teller.top), ("shut", 0, 0, 0))

    def test_begin_signs_end_begin_again(self):
        teller = Teller(4, 4)
        row = [BEGIN, signs("a"), signs("a"), END, BEGIN, END, BEGIN, signs("b")]
        states = []
        for place, thing in enumerate(row):
            self.assertEqual(teller.put(thing), place)
            self.assertEqual(teller.many(), place + 1)
            states.append(teller.stands())
        self.assertEqual(states, ["open", "open", "open", "shut", "open", "shut", "open", "open"])
        self.assertEqual([teller.thing_at(place) for place in range(len(row))], row)

    def test_places_are_whole_numbers(self):
        self.assertIs(type(Teller(1, 1).put(BEGIN)), int)

    def test_texts_of_one_to_eight_signs(self):
        texts = list(ALL_SIGNS) + [ALL_SIGNS[at:at + 8] for at in range(len(ALL_SIGNS) - 7)]
        texts += ["a" * many for many in range(1, 9)] + [" " * 8, "~" * 8, " ~", "~ ", "signs", "begin", "end"]
        teller = Teller(4, 4)
        teller.put(BEGIN)
        for place, text in enumerate(texts, 1):
            with self.subTest(text=text):
                self.assertEqual(teller.put(signs(text)), place)
                self.assertEqual(teller.thing_at(place), signs(text))

    def test_what_is_no_thing_where_it_is_open_and_where_it_is_shut(self):
        for thing, is_open in itertools.product(NO_THINGS, (False, True)):
            with self.subTest(thing=thing, is_open=is_open):
                teller = Teller(4, 4)
                if is_open:
                    teller.put(BEGIN)
                self.assertRaises(BadThing, teller.put, thing)
                self.assertEqual(teller.stands(), "open" if is_open else "shut")
                self.assertEqual(teller.many(), int(is_open))

    def test_a_begin_where_it_is_open(self):
        teller = Teller(4, 4)
        teller.put(BEGIN)
        self.not_now(teller, BEGIN, "open")
        teller.put(signs("a"))
        self.not_now(teller, BEGIN, "open")

    def test_signs_and_an_end_where_it_is_shut(self):
        teller = Teller(4, 4)
        for _ in range(2):
            self.not_now(teller, signs("a"), "shut")
            self.not_now(teller, END, "shut")
            teller.put(BEGIN)
            teller.put(END)

    def test_what_is_refused_changes_nothing(self):
        teller = Teller(4, 4)
        for _ in range(2):
            self.not_now(teller, END, "shut")
            self.assertRaises(BadThing, teller.put, ("signs", ""))
        self.assertEqual((teller.many(), teller.stands(), teller.base, teller.top), (0, "shut", 0, 0))
        self.assertIsNone(teller.go(0))
        self.assertEqual(teller.put(BEGIN), 0)
        for _ in range(2):
            self.not_now(teller, BEGIN, "open")
            self.assertRaises(BadThing, teller.put, ("begin", "a"))
        self.assertEqual((teller.many(), teller.stands(), teller.thing_at(0)), (1, "open", BEGIN))
        self.assertEqual([teller.go(1), teller.go(2)], [0, None])
        self.assertEqual(teller.put(END), 1)

    def test_the_refusals_stand_right_under_the_base(self):
        self.assertEqual((BadThing.__bases__, NotNow.__bases__), ((RoadError,), (RoadError,)))

    def test_tellers_share_nothing(self):
        filled(3)
        self.assertEqual((Teller(4, 4).many(), Teller(4, 4).stands()), (0, "shut"))


class TestGo(unittest.TestCase):
    def test_none_where_nothing_was_put(self):
        teller = Teller(4, 1)
        self.assertEqual([teller.go(turn) for turn in range(5)], [None] * 5)
        self.assertEqual((teller.base, teller.top), (0, 0))

    def test_top_goes_as_far_as_things_were_put(self):
        teller = filled(3, window=60, wait=100)
        tops = []
        for turn, place in enumerate([0, 1, 2, None, None]):
            self.assertEqual(teller.go(turn), place)
            tops.append(teller.top)
        self.assertEqual(tops, [1, 2, 3, 3, 3])
        self.assertEqual((teller.base, teller.many()), (0, 3))

    def test_top_goes_as_far_as_the_window(self):
        for window in (1, 2, 60):
            teller = filled(70, window=window, wait=10 ** 6)
            wanted = list(range(window)) + [None] * 3
            self.assertEqual([teller.go(turn) for turn in range(window + 3)], wanted)
            self.assertEqual(teller.top, window)
            teller.heard(1)
            self.assertEqual([teller.go(turn) for turn in range(100, 103)], [window, None, None])
            self.assertEqual((teller.base, teller.top), (1, window + 1))

    def test_base_goes_again_just_wait_turns_on(self):
        for wait in (1, 2, 7, 1000, 10 ** 6):
            teller = filled(1, wait=wait)
            self.assertEqual(teller.go(5), 0)
            if wait > 1:
                self.assertIsNone(teller.go(5 + wait - 1))
            self.assertEqual(teller.go(5 + wait), 0)
            if wait > 1:
                self.assertIsNone(teller.go(5 + 2 * wait - 1))
            self.assertEqual(teller.go(5 + 2 * wait + 3), 0)
            if wait > 1:
                self.assertIsNone(teller.go(5 + 3 * wait + 2))
            self.assertEqual(teller.go(5 + 3 * wait + 3), 0)
            self.assertEqual((teller.base, teller.top), (0, 1))

    def test_base_goes_ahead_of_top(self):
        teller = filled(9, window=60, wait=3)
        self.assertEqual([teller.go(turn) for turn in range(12)], [0, 1, 2, 0, 3, 4, 0, 5, 6, 0, 7, 8])
        self.assertEqual((teller.base, teller.top), (0, 9))

    def test_a_wait_of_one_goes_again_each_turn(self):
        teller = filled(9, window=60, wait=1)
        self.assertEqual([teller.go(turn) for turn in range(5)], [0] * 5)
        self.assertEqual(teller.top, 1)
        teller.heard(1)
        self.assertEqual([teller.go(turn) for turn in range(5, 8)], [1] * 3)

    def test_a_window_of_one(self):
        teller = filled(3, window=1, wait=2)
        told = []
        for turn in range(9):
            told.append(teller.go(turn))
            if turn in (2, 3):
                teller.heard(teller.top)
        self.assertEqual(told, [0, None, 0, 1, 2, None, 2, None, 2])

    def test_only_bases_own_last_going_counts(self):
        teller = filled(4, window=60, wait=4)
        self.assertEqual([teller.go(turn) for turn in (0, 2, 3)], [0, 1, 2])
        teller.heard(1)
        # Place 1 went in turn 2 alone.
        self.assertEqual([teller.go(turn) for turn in (4, 5, 6, 7, 10)], [3, None, 1, None, 1])
        teller.heard(3)
        # Place 3 went in turn 4.
        self.assertEqual([teller.go(turn) for turn in (11, 14, 15)], [3, None, 3])

    def test_none_goes_again_where_all_that_went_is_there(self):
        teller = filled(2, wait=1)
        teller.go(0)
        teller.heard(1)
        self.assertEqual(teller.go(50), 1)
        teller.heard(2)
        self.assertEqual([teller.go(turn) for turn in (51, 52, 100)], [None] * 3)
        teller.put(END)
        self.assertEqual([teller.go(turn) for turn in (101, 102)], [2, 2])

    def test_things_put_later_go(self):
        teller = Teller(4, 100)
        told = []
        for turn, thing in enumerate([BEGIN, signs("a"), END, BEGIN, signs("b")]):
            teller.put(thing)
            told.append(teller.go(turn))
        self.assertEqual(told, [0, 1, 2, 3, None])
        self.assertEqual(teller.many(), 5)

    def test_turns_may_lie_apart_and_begin_anywhere(self):
        teller = filled(2, wait=5)
        self.assertEqual([teller.go(turn) for turn in (1000, 1004, 1004 + 1, 10 ** 6)], [0, 1, 0, 0])


class TestHeard(unittest.TestCase):
    def test_it_raises_base_and_gives_none(self):
        teller = filled(6)
        for turn in range(6):
            teller.go(turn)
        bases = []
        for got in (0, 1, 1, 0, 4, 3, 1, 4, 6, 5, 6):
            self.assertIsNone(teller.heard(got))
            bases.append(teller.base)
        self.assertEqual(bases, [0, 1, 1, 1, 4, 4, 4, 4, 6, 6, 6])
        self.assertEqual((teller.top, teller.many(), teller.stands()), (6, 6, "shut"))

    def test_one_that_is_not_more_changes_nothing(self):
        teller = filled(6, window=3, wait=4)
        for turn in range(3):
            teller.go(turn)
        teller.heard(2)
        for got in (0, 1, 2):
            teller.heard(got)
            self.assertEqual((teller.base, teller.top), (2, 3))
        self.assertEqual([teller.go(turn) for turn in range(3, 8)], [3, 4, None, 2, None])


class TestTook(unittest.TestCase):
    def test_at_first(self):
        for window in (1, 60):
            taker = Taker(window)
            self.assertEqual(taker.got, 0)
            self.assertIs(taker.owed, False)
            self.assertEqual(taker.read(), [])

    def test_in_order(self):
        taker = Taker(1)
        for place, thing in enumerate(things_of(9)):
            self.assertIs(taker.took(place, thing), True)
            self.assertEqual(taker.got, place + 1)
        self.assertEqual(taker.read(), things_of(9))

    def test_places_below_got_are_not_new(self):
        taker = Taker(8)
        for place in range(3):
            taker.took(place, signs(str(place)))
        for place in (0, 1, 2, -1):
            self.assertIs(taker.took(place, signs("x")), False)
        self.assertEqual(taker.got, 3)
        self.assertEqual(taker.read(), [signs("0"), signs("1"), signs("2")])
        self.assertIs(taker.took(2, signs("x")), False)
        self.assertEqual(taker.read(), [])

    def test_one_that_is_there_already_is_not_new(self):
        taker = Taker(8)
        self.assertIs(taker.took(2, signs("a")), True)
        for _ in range(2):
            self.assertIs(taker.took(2, signs("b")), False)
        taker.took(0, BEGIN)
        taker.took(1, signs("c"))
        self.assertEqual(taker.read(), [BEGIN, signs("c"), signs("a")])

    def test_the_window_is_counted_from_got(self):
        for window, got in itertools.product((1, 2, 60), (0, 1, 5)):
            with self.subTest(window=window, got=got):
                taker = Taker(window)
                for place in range(got):
                    taker.took(place, signs("a"))
                for place in (got + window, got + window + 1, got + 2 * window, 10 ** 6):
                    self.assertIs(taker.took(place, signs("b")), False)
                self.assertIs(taker.took(got + window - 1, signs("c")), True)
                self.assertEqual(taker.got, got + (1 if window == 1 else 0))

    def test_what_was_beyond_the_window_is_not_kept(self):
        taker = Taker(2)
        taker.took(2, signs("a"))
        taker.took(1, signs("b"))
        taker.took(0, BEGIN)
        self.assertEqual(taker.got, 2)
        self.assertIs(taker.took(2, signs("c")), True)
        self.assertEqual(taker.read(), [BEGIN, signs("b"), signs("c")])

    def test_out_of_order(self):
        for order in itertools.permutations(range(5)):
            taker = Taker(5)
            came = []
            for place in order:
                self.assertIs(taker.took(place, things_of(5)[place]), True)
                came.append(place)
                wanted = min(at for at in range(6) if at not in came)
                self.assertEqual(taker.got, wanted)
            self.assertEqual(taker.read(), things_of(5))

    def test_an_answer_is_owed_behind_whatever_came(self):
        taker = Taker(2)
        for place, is_new in ((0, True), (0, False), (2, True), (2, False), (3, False), (99, False), (1, True)):
            self.assertIs(taker.took(place, signs("a")), is_new)
            self.assertIs(taker.owed, True)
            self.assertEqual(taker.answered(), taker.got)
            self.assertIs(taker.owed, False)
        self.assertEqual(taker.got, 3)

    def test_several_that_came_owe_one_answer(self):
        taker = Taker(9)
        for place in (0, 1, 1, 3):
            taker.took(place, signs("a"))
        self.assertIs(taker.owed, True)
        self.assertEqual(taker.answered(), 2)
        self.assertIs(taker.owed, False)

    def test_reading_and_answering_are_apart(self):
        taker = Taker(9)
        taker.took(0, BEGIN)
        self.assertEqual(taker.read(), [BEGIN])
        self.assertIs(taker.owed, True)
        taker.took(1, END)
        taker.answered()
        self.assertEqual((taker.got, taker.read(), taker.owed), (2, [END], False))


class TestRead(unittest.TestCase):
    def test_each_once_and_then_an_empty_list(self):
        taker = Taker(9)
        row = things_of(6)
        for place in (0, 1, 3):
            taker.took(place, row[place])
        self.assertEqual([taker.read(), taker.read()], [row[:2], []])
        taker.took(4, row[4])
        self.assertEqual(taker.read(), [])
        taker.took(2, row[2])
        self.assertEqual([taker.read(), taker.read()], [row[2:5], []])
        taker.took(4, row[4])
        self.assertEqual(taker.read(), [])
        taker.took(5, row[5])
        self.assertEqual([taker.read(), taker.read()], [row[5:], []])

    def test_lists_told_are_the_askers_own(self):
        taker = Taker(9)
        taker.read().append("x")
        taker.took(0, BEGIN)
        told = taker.read()
        self.assertIsInstance(told, list)
        told.append("x")
        self.assertEqual((taker.got, taker.read()), (1, []))
        taker.took(1, END)
        self.assertEqual(taker.read(), [END])

    def test_takers_share_nothing(self):
        Taker(9).took(0, BEGIN)
        taker = Taker(9)
        self.assertEqual((taker.got, taker.owed, taker.read()), (0, False, []))


class TestSo(unittest.TestCase):
    def test_whatever_becomes_of_goings_and_answers(self):
        ends = []
        for seed, window, wait in itertools.product(range(25), (1, 2, 7, 60), (1, 3, 20)):
            ends.append(self.go(random.Random(seed), window, wait))
        self.assertIn(True, ends)

    def go(self, chance, window, wait):
        teller, taker = Teller(window, wait), Taker(window)
        row = things_of(60)
        # All that went stays to be drawn, so each may come late, again, never, and behind later ones.
        went, answers, read = [], [], []
        for turn in range(200):
            if teller.many() < len(row) and chance.random() < 0.5:
                teller.put(row[teller.many()])
            place = teller.go(turn)
            if place is not None:
                went.append((place, teller.thing_at(place)))
            self.let_come(chance, taker, went, row)
            self.look_at(teller, taker)
            if taker.owed and chance.random() < 0.5:
                answers.append(taker.answered())
            if answers and chance.random() < 0.5:
                teller.heard(chance.choice([chance.choice(answers), answers[-1]]))
            self.look_at(teller, taker)
            if chance.random() < 0.3:
                read.extend(taker.read())
                self.assertEqual(read, row[:taker.got])
        return len(read) > 30

    def let_come(self, chance, taker, went, row):
        for place, thing in [chance.choice(part) for part in (went, went[-3:]) if part]:
            if chance.random() < 0.6:
                is_new = taker.took(place, thing)
                self.assertTrue(taker.owed)
                if is_new:
                    self.assertEqual(thing, row[place])

    def look_at(self, teller, taker):
        self.assertLessEqual(teller.base, taker.got)
        self.assertLessEqual(taker.got, teller.top)
        self.assertLessEqual(teller.top, teller.many())
        self.assertLessEqual(teller.top, teller.base + teller.window)


class Lossy:
    """Of any K goings under a key, one behind the other, one comes within L turns: where fate says, or must be."""

    def __init__(self, of, late, fate):
        self.of, self.late, self.fate = of, late, fate
        self.lost = {}
        self.underway = []

    def send(self, key, turn, letter):
        lost = self.lost.get(key, 0)
        delay = self.fate(self.late)
        if delay is None and lost + 1 < self.of:
            self.lost[key] = lost + 1
        else:
            self.lost[key] = 0
            self.underway.append((turn + (delay or self.late), letter))

    def come(self, turn):
        due = [letter for comes, letter in self.underway if comes <= turn]
        self.underway = [pair for pair in self.underway if pair[0] > turn]
        return due


def always_lost(late):
    return None


class TestTurns(unittest.TestCase):
    def test_numbers_by_hand(self):
        for values, turns in (
            ((0, 3, 4, 5), 0),
            ((1, 1, 1, 1), 7),
            ((5, 1, 1, 1), 35),
            ((1, 2, 1, 1), 12),
            ((1, 1, 2, 1), 9),
            ((1, 1, 1, 2), 9),
            ((1, 2, 3, 5), 38),
            ((3, 2, 5, 10), 207),
            ((1, 3, 0, 1), 15),
            ((2, 4, 32, 100), 2 * (4 * 433 + 134)),
            ((60, 60, 32, 10 ** 6), 60 * (60 * 60000033 + 1000034)),
        ):
            with self.subTest(values=values):
                self.assertEqual(talk_turns(*values), turns)

    def test_all_is_known_in_time(self):
        for of, late, wait, window in itertools.product((1, 2, 3), (1, 4), (1, 2, 9), (1, 3, 60)):
            with self.subTest(of=of, late=late, wait=wait, window=window):
                self.known_in_time(random.Random(1), of, late, wait, window, always_lost)
                for seed in range(3):
                    chance = random.Random(seed)
                    self.known_in_time(
                        chance, of, late, wait, window,
                        lambda most: chance.choice([None, None, chance.randint(1, most)]),
                    )

    def known_in_time(self, chance, of, late, wait, window, fate):
        many = 8
        teller, taker = filled(many, window, wait), Taker(window)
        start = chance.randint(0, 30)
        for turn in range(start):
            self.turn_ahead(chance, teller, taker, turn)
        there, back = Lossy(of, late, fate), Lossy(of, late, fate)
        last = start + talk_turns(many, of, late, wait)
        turn = start
        while teller.base < many and turn <= last:
            for place, thing in there.come(turn):
                taker.took(place, thing)
            for got in back.come(turn):
                teller.heard(got)
            place = teller.go(turn)
            if place is not None:
                there.send(place, turn, (place, teller.thing_at(place)))
            if taker.owed:
                back.send("answer", turn, taker.answered())
            turn += 1
        self.assertEqual((teller.base, taker.read()), (many, things_of(many)))

    def turn_ahead(self, chance, teller, taker, turn):
        """A turn in which anything may be lost."""
        place = teller.go(turn)
        if place is not None and chance.random() < 0.3:
            taker.took(place, teller.thing_at(place))
        if taker.owed and chance.random() < 0.5:
            got = taker.answered()
            if chance.random() < 0.2:
                teller.heard(got)


if __name__ == "__main__":
    unittest.main()
