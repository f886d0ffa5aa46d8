"""Stage 4: links, promises 4.1 to 4.3, and 0.2 where it speaks of them."""

import random
import unittest

from roadnet.errors import Full, RoadError
from roadnet.link import In, Out
from roadnet.roads import Road, fairness


def filled(room):
    out = Out(room)
    for number in range(room):
        out.put(("parcel", number))
    return out


def pairs_of(numbers):
    return tuple((number, ("parcel", number)) for number in numbers)


class TestOut(unittest.TestCase):
    def test_empty_at_first(self):
        for room in (1, 2, 16):
            out = Out(room)
            self.assertEqual(out.free(), room)
            self.assertEqual(out.parcels(), ())

    def test_numbers_rise_from_0(self):
        for room in (1, 2, 16):
            out = Out(room)
            self.assertEqual([out.put("x") for _ in range(room)], list(range(room)))
            self.assertEqual(out.parcels(), tuple((number, "x") for number in range(room)))

    def test_free_falls_with_each(self):
        out = Out(3)
        frees = []
        for _ in range(3):
            frees.append(out.free())
            out.put("x")
        self.assertEqual(frees + [out.free()], [3, 2, 1, 0])

    def test_full_and_nothing_changed(self):
        for room in (1, 2, 16):
            out = filled(room)
            for _ in range(3):
                self.assertRaises(Full, out.put, "more")
                self.assertEqual(out.free(), 0)
                self.assertEqual(out.parcels(), pairs_of(range(room)))
            out.told(1)
            self.assertEqual(out.put("next"), room)

    def test_full_stands_right_under_the_base(self):
        self.assertEqual(Full.__bases__, (RoadError,))

    def test_parcels_is_a_tuple_of_pairs(self):
        out = filled(3)
        told = out.parcels()
        self.assertIsInstance(told, tuple)
        for pair in told:
            self.assertIsInstance(pair, tuple)
        self.assertEqual(told, ((0, ("parcel", 0)), (1, ("parcel", 1)), (2, ("parcel", 2))))

    def test_told_makes_room(self):
        for got in range(5):
            out = filled(4)
            self.assertIsNone(out.told(got))
            self.assertEqual(out.free(), got)
            self.assertEqual(out.parcels(), pairs_of(range(got, 4)))

    def test_a_got_told_before_or_a_lesser_one_changes_nothing(self):
        out = filled(4)
        out.told(2)
        out.put(("parcel", 4))
        for got in (2, 1, 0, 2):
            self.assertIsNone(out.told(got))
            self.assertEqual(out.free(), 1)
            self.assertEqual(out.parcels(), pairs_of([2, 3, 4]))

    def test_all_told(self):
        out = filled(2)
        out.told(2)
        self.assertEqual(out.parcels(), ())
        self.assertEqual(out.put(("parcel", 2)), 2)
        out.told(2)
        self.assertEqual(out.parcels(), pairs_of([2]))

    def test_put_and_told_many_times(self):
        for room in (1, 3, 16):
            out = Out(room)
            for number in range(200):
                self.assertEqual(out.put(("parcel", number)), number)
                first = max(0, number - room + 1)
                self.assertEqual(out.parcels(), pairs_of(range(first, number + 1)))
                if out.free() == 0:
                    self.assertRaises(Full, out.put, "more")
                    out.told(first + 1)

    def test_any_things_and_alike_ones(self):
        thing = object()
        things = [None, 0, "", "x", "x", (1, [2]), [1], {"a": 1}, thing]
        out = Out(16)
        for one in things:
            out.put(one)
        self.assertEqual(out.parcels(), tuple(enumerate(things)))

    def test_what_is_handed_in_and_told_is_the_askers_own(self):
        parcel = [1, [2]]
        out = Out(2)
        out.put(parcel)
        parcel[1].append(3)
        self.assertEqual(out.parcels(), ((0, [1, [2]]),))
        out.parcels()[0][1].append(4)
        self.assertEqual(out.parcels(), ((0, [1, [2]]),))

    def test_links_share_nothing(self):
        filled(2)
        self.assertEqual(Out(2).parcels(), ())


class TestIn(unittest.TestCase):
    def test_got_is_0_at_first(self):
        self.assertEqual(In().got, 0)

    def test_handed_on_in_order(self):
        taker = In()
        self.assertEqual(taker.took(((0, "a"), (1, "b"), (2, "c"))), ["a", "b", "c"])
        self.assertEqual(taker.got, 3)
        self.assertEqual(taker.took(((3, "d"),)), ["d"])
        self.assertEqual(taker.got, 4)

    def test_none(self):
        taker = In()
        self.assertEqual(taker.took(()), [])
        self.assertEqual(taker.got, 0)

    def test_old_ones_are_let_by(self):
        taker = In()
        taker.took(((0, "a"), (1, "b")))
        self.assertEqual(taker.took(((0, "a"), (1, "b"))), [])
        self.assertEqual(taker.got, 2)
        self.assertEqual(taker.took(((0, "a"), (1, "b"), (2, "c"))), ["c"])
        self.assertEqual(taker.got, 3)

    def test_those_beyond_a_hole_are_let_by(self):
        taker = In()
        self.assertEqual(taker.took(((1, "b"), (2, "c"))), [])
        self.assertEqual(taker.got, 0)
        self.assertEqual(taker.took(((0, "a"), (2, "c"))), ["a"])
        self.assertEqual(taker.got, 1)

    def test_they_are_gone_over_in_their_order(self):
        taker = In()
        self.assertEqual(taker.took(((2, "c"), (1, "b"), (0, "a"))), ["a"])
        self.assertEqual(taker.got, 1)
        taker = In()
        self.assertEqual(taker.took(((1, "b"), (0, "a"), (2, "c"), (1, "b"), (1, "b"), (2, "c"))), ["a", "b", "c"])
        self.assertEqual(taker.got, 3)

    def test_what_is_handed_in_stays_and_what_is_told_is_the_askers_own(self):
        taker = In()
        pairs = [(0, [1]), (1, "b")]
        told = taker.took(pairs)
        told[0].append(2)
        told.append("x")
        self.assertEqual(pairs, [(0, [1]), (1, "b")])
        pairs.append((2, "c"))
        self.assertEqual(taker.got, 2)
        self.assertEqual(taker.took(((2, "c"),)), ["c"])


class TestSo(unittest.TestCase):
    def test_whatever_becomes_of_the_letters(self):
        for seed in range(60):
            for room in (1, 3, 16):
                self.go(random.Random(seed), room)

    def go(self, chance, room):
        out, taker = Out(room), In()
        put, came, told = [], [], 0
        # Every letter sent stays to be drawn, so each may come late, again, never, and behind later ones.
        sent, back = [], []
        for _ in range(150):
            if out.free() and chance.random() < 0.5:
                put.append(("parcel", len(put)))
                out.put(put[-1])
            sent.append(out.parcels())
            back.append(taker.got)
            for letter in chance.sample(sent[-6:], 1) + chance.sample(sent, 1):
                if chance.random() < 0.5:
                    came.extend(taker.took(letter))
            if chance.random() < 0.5:
                got = chance.choice([chance.choice(back), back[-1]])
                out.told(got)
                told = max(told, got)
            self.assertEqual(came, put[:len(came)])
            self.assertEqual(taker.got, len(came))
            self.assertGreaterEqual(taker.got, told)
            self.assertEqual(out.parcels(), tuple(enumerate(put))[told:])

    roads = (
        [],
        [(4,)],
        [(), (1,)],
        [(4,), (), (), (1,)],
        [(), (2, 1), (), (), (4, 4, 4), ()],
        [(1,)] + [()] * 2 + [(4,)],
        [(4,)] + [()] * 7 + [(1,)],
    )

    def turns_of(self, deeds, deeds_back, room, turns):
        """By numbers: the turns in which a parcel was put, was handed on, and was kept no more."""
        there, back = Road(deeds, 4), Road(deeds_back, 4)
        out, taker = Out(room), In()
        put, handed_on, gone = {}, {}, {}
        for turn in range(turns):
            for letter in there.come(turn):
                for number in taker.took(letter):
                    handed_on[number] = turn
            for got in back.come(turn):
                out.told(got)
            for number in range(len(gone), len(put)):
                if number not in [kept for kept, _ in out.parcels()]:
                    gone[number] = turn
            while out.free():
                put[out.put(len(put))] = turn
            there.send(turn, out.parcels())
            back.send(turn, taker.got)
        return put, handed_on, gone

    def test_handed_on_and_kept_no_more_in_time(self):
        for deeds in self.roads:
            for deeds_back in self.roads:
                for room in (1, 5, 16):
                    with self.subTest(deeds=deeds, deeds_back=deeds_back, room=room):
                        self.look_at(deeds, deeds_back, room)

    def look_at(self, deeds, deeds_back, room):
        late = max(fairness(deeds), fairness(deeds_back)) + 4 - 1
        put, handed_on, gone = self.turns_of(deeds, deeds_back, room, 150)
        self.assertGreater(len(gone), 3)
        for number, turn in put.items():
            self.assertLessEqual(handed_on.get(number, 150), turn + late)
            self.assertLessEqual(gone.get(number, 150), turn + 2 * late)

    def test_both_bounds_are_met(self):
        deeds = [(), (), (4,)]
        late = fairness(deeds) + 4 - 1
        put, handed_on, gone = self.turns_of(deeds, deeds, 2, 60)
        self.assertEqual((put[0], handed_on[0], gone[0]), (0, late, 2 * late))


if __name__ == "__main__":
    unittest.main()
