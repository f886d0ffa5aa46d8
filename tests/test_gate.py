"""Stage 5: gates, promises 5.1 to 5.3, and 0.2 where it speaks of them."""

import random
import unittest

from roadnet.gate import Gate


def filled(places, *keys):
    gate = Gate(places)
    for number, key in enumerate(keys):
        gate.put(key, (key, number))
    return gate


class TestPut(unittest.TestCase):
    def test_as_many_as_there_are_places(self):
        for places in (1, 2, 16):
            gate = Gate(places)
            for number in range(places):
                self.assertIs(gate.put("a", (number,)), True)
            for number in range(places, places + 3):
                self.assertIs(gate.put("a", (number,)), False)
                self.assertEqual(gate.waits("a"), places)
                self.assertEqual(gate.waiting(), ["a"])
            self.assertEqual(gate.out(100), [(number,) for number in range(places)])

    def test_places_are_each_keys_own(self):
        gate = Gate(1)
        for key in range(30):
            self.assertIs(gate.put(key, ("x",)), True)
            self.assertIs(gate.put(key, ("y",)), False)
        self.assertEqual(gate.out(100), [("x",)] * 30)

    def test_the_same_parcel_changes_nothing(self):
        gate = filled(3, "a", "b", "a")
        for parcel in (("a", 0), tuple(["a", 0]), ("a", 2)):
            self.assertIs(gate.put("a", parcel), True)
            self.assertEqual(gate.waits("a"), 2)
            self.assertEqual(gate.waiting(), ["a", "b"])
        self.assertEqual(gate.out(9), [("a", 0), ("b", 1), ("a", 2)])

    def test_the_same_parcel_where_the_places_are_full(self):
        gate = filled(2, "a", "a")
        self.assertIs(gate.put("a", ("a", 0)), True)
        self.assertIs(gate.put("a", ("a", 1)), True)
        self.assertIs(gate.put("a", ("a", 2)), False)
        self.assertEqual(gate.out(9), [("a", 0), ("a", 1)])

    def test_under_another_key_it_is_another_one(self):
        gate = Gate(1)
        self.assertIs(gate.put("a", ("x",)), True)
        self.assertIs(gate.put("b", ("x",)), True)
        self.assertEqual((gate.waits("a"), gate.waits("b")), (1, 1))
        self.assertEqual(gate.out(9), [("x",), ("x",)])

    def test_a_parcel_that_was_given_out_may_wait_again(self):
        gate = filled(1, "a")
        gate.out(1)
        self.assertIs(gate.put("a", ("a", 0)), True)
        self.assertEqual(gate.waits("a"), 1)
        self.assertEqual(gate.out(9), [("a", 0)])

    def test_room_comes_with_each_given_out(self):
        gate = filled(2, "a", "a")
        gate.out(1)
        self.assertIs(gate.put("a", ("a", 2)), True)
        self.assertIs(gate.put("a", ("a", 3)), False)
        self.assertEqual(gate.out(9), [("a", 1), ("a", 2)])

    def test_keys_of_all_kinds(self):
        keys = [0, 7, -3, "", "0", "a b", (), (0,), (0, 1, "piece"), ((0, "a"), ((), "b")), (("0",),)]
        gate = Gate(1)
        for key in keys:
            self.assertIs(gate.put(key, (key, "x")), True)
            self.assertIs(gate.put(key, (key, "y")), False)
        self.assertEqual(gate.waiting(), keys)
        self.assertEqual([gate.waits(key) for key in keys], [1] * len(keys))
        self.assertEqual(gate.waits((0, 1, "got")), 0)
        self.assertEqual(gate.out(99), [(key, "x") for key in keys])

    def test_an_equal_key_is_the_same_one(self):
        gate = Gate(2)
        gate.put((1, ("a",)), (1,))
        gate.put(tuple([1, tuple(["a"])]), (2,))
        self.assertEqual(gate.waiting(), [(1, ("a",))])
        self.assertEqual(gate.waits((1, ("a",))), 2)

    def test_a_key_under_which_none_waited_stands_last(self):
        gate = filled(4, "c", "a", "b", "a", "c")
        self.assertEqual(gate.waiting(), ["c", "a", "b"])

    def test_a_key_that_left_the_row_stands_last_again(self):
        gate = filled(4, "a", "b", "c")
        gate.out(1)
        gate.put("a", ("a", 9))
        self.assertEqual(gate.waiting(), ["b", "c", "a"])

    def test_what_is_handed_in_is_not_kept(self):
        inner = [1]
        gate = Gate(2)
        gate.put("a", (0, inner))
        inner.append(2)
        self.assertIs(gate.put("a", (0, [1])), True)
        self.assertEqual(gate.out(9), [(0, [1])])
        self.assertEqual(inner, [1, 2])


class TestOut(unittest.TestCase):
    def test_none_asked(self):
        gate = filled(3, "a", "b", "a")
        self.assertEqual(gate.out(0), [])
        self.assertEqual(gate.waiting(), ["a", "b"])
        self.assertEqual(gate.waits("a"), 2)

    def test_an_empty_gate(self):
        gate = Gate(1)
        self.assertEqual((gate.out(0), gate.out(1), gate.out(50)), ([], [], []))
        self.assertEqual(gate.waiting(), [])

    def test_one_by_one(self):
        gate = filled(4, "a", "a", "b", "a", "c", "b")
        steps = []
        while gate.waiting():
            given = gate.out(1)
            steps.append((given, gate.waiting(), [gate.waits(key) for key in ("a", "b", "c")]))
        self.assertEqual(steps, [
            ([("a", 0)], ["b", "c", "a"], [2, 2, 1]),
            ([("b", 2)], ["c", "a", "b"], [2, 1, 1]),
            ([("c", 4)], ["a", "b"], [2, 1, 0]),
            ([("a", 1)], ["b", "a"], [1, 1, 0]),
            ([("b", 5)], ["a"], [1, 0, 0]),
            ([("a", 3)], [], [0, 0, 0]),
        ])

    def test_several_at_once_are_like_one_by_one(self):
        keys = ["a", "a", "b", "a", "c", "b", "b", "a"]
        whole = filled(8, *keys).out(99)
        self.assertEqual(len(whole), len(keys))
        for many in range(1, 10):
            gate = filled(8, *keys)
            given = []
            for _ in keys:
                some = gate.out(many)
                self.assertEqual(len(some), min(many, len(keys) - len(given)))
                given.extend(some)
            self.assertEqual(given, whole)

    def test_more_asked_than_wait(self):
        gate = filled(4, "a", "b", "a")
        self.assertEqual(gate.out(50), [("a", 0), ("b", 1), ("a", 2)])
        self.assertEqual(gate.out(50), [])
        self.assertEqual(gate.waiting(), [])

    def test_a_key_alone_gives_again_and_again(self):
        gate = filled(4, "a", "a", "a")
        self.assertEqual(gate.out(2), [("a", 0), ("a", 1)])
        self.assertEqual(gate.waiting(), ["a"])

    def test_waits_of_a_key_under_which_none_waits(self):
        gate = filled(2, "a")
        self.assertEqual(gate.waits("b"), 0)
        gate.out(1)
        self.assertEqual(gate.waits("a"), 0)
        self.assertEqual(gate.waiting(), [])

    def test_lists_told_are_the_askers_own(self):
        gate = filled(2, "a", "b", "a")
        gate.waiting().clear()
        self.assertEqual(gate.waiting(), ["a", "b"])
        given = gate.out(1)
        given.append("x")
        self.assertEqual(gate.out(1), [("b", 1)])
        gate.out(0).append("x")
        self.assertEqual(gate.out(9), [("a", 2)])

    def test_gates_share_nothing(self):
        filled(2, "a", "b")
        self.assertEqual(Gate(2).waiting(), [])


class TestSo(unittest.TestCase):
    def test_given_out_within_a_count(self):
        for seed in range(40):
            for places in (1, 3, 16):
                self.go(random.Random(seed), places)

    def go(self, chance, places):
        gate = Gate(places)
        keys = list(range(chance.randint(1, 6)))
        put = dict((key, []) for key in keys)
        given = dict((key, []) for key in keys)
        # Of each parcel: how many were given out ahead of its putting, and its place under its key then.
        started = {}
        total = 0
        for number in range(200):
            key = chance.choice(keys)
            place = gate.waits(key) + 1
            if gate.put(key, (key, number)):
                put[key].append((key, number))
                started[key, number] = (total, place)
            for parcel in gate.out(chance.choice([0, 0, 1, 1, 2, 3])):
                total += 1
                given[parcel[0]].append(parcel)
                ahead, place = started[parcel]
                self.assertLessEqual(total - ahead, place * len(keys))
            for key in keys:
                self.assertEqual(given[key], put[key][:len(given[key])])
                self.assertEqual(gate.waits(key), len(put[key]) - len(given[key]))

    def test_the_count_is_met(self):
        gate = Gate(4)
        for key in (1, 2, 3, 0):
            for number in range(4):
                gate.put(key, (key, number))
        self.assertEqual(gate.out(99).index((0, 2)) + 1, 3 * 4)


if __name__ == "__main__":
    unittest.main()
