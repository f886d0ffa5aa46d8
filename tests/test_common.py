"""What is a whole number, what is past, and what is the asker's own (0.2)."""

import unittest

from roadnet.common import is_text_of, is_whole, is_within, own_copy, refuse_below
from tests.cases import PastCase


class TestWhole(unittest.TestCase):
    def test_ints_are_whole(self):
        for thing in (0, 1, -1, 10 ** 30):
            with self.subTest(thing=thing):
                self.assertIs(is_whole(thing), True)

    def test_truths_and_others_are_none(self):
        for thing in (True, False, None, 1.0, "1", (1,), [1]):
            with self.subTest(thing=thing):
                self.assertIs(is_whole(thing), False)

    def test_bounds_are_within(self):
        answers = [is_within(number, 2, 4) for number in (1, 2, 3, 4, 5)]
        self.assertEqual(answers, [False, True, True, True, False])

    def test_what_is_no_whole_number_is_not_within(self):
        for thing in (True, 1.0, None, "1"):
            with self.subTest(thing=thing):
                self.assertIs(is_within(thing, 0, 4), False)


class TestTextOf(unittest.TestCase):
    def test_lengths(self):
        answers = [is_text_of("b" * many, 3, "b", "d") for many in range(6)]
        self.assertEqual(answers, [False, True, True, True, False, False])

    def test_each_sign_from_the_first_to_the_last(self):
        for text, told in (("b", True), ("d", True), ("bcd", True), ("a", False), ("e", False), ("bae", False)):
            with self.subTest(text=text):
                self.assertIs(is_text_of(text, 3, "b", "d"), told)

    def test_what_is_no_text(self):
        for thing in (None, True, 1, b"b", ("b",), ["b"], {"b": 1}):
            with self.subTest(thing=thing):
                self.assertIs(is_text_of(thing, 3, "b", "d"), False)


class TestBelow(PastCase):
    def test_good_turns(self):
        for turn, last in ((5, None), (-5, None), (5, 5), (6, 5), (0, 0), (0, -1)):
            with self.subTest(turn=turn, last=last):
                self.assertIsNone(refuse_below(turn, last))

    def test_a_lesser_turn_is_refused_with_the_last(self):
        for turn, last in ((4, 5), (-1, 0), (-2, -1)):
            with self.subTest(turn=turn, last=last):
                self.refused_past(last, refuse_below, turn, last)


class TestOwnCopy(unittest.TestCase):
    def test_copies_are_alike(self):
        for thing in (None, True, 3, "text", (), [], {}, (1, [2, {"a": (3,)}], "b")):
            with self.subTest(thing=thing):
                copied = own_copy(thing)
                self.assertEqual(copied, thing)
                self.assertEqual(repr(copied), repr(thing))

    def test_lists_and_dicts_are_others_at_every_depth(self):
        thing = ([1], {"a": [2]}, [[3]])
        copied = own_copy(thing)
        thing[0].append(9)
        thing[1]["a"].append(9)
        thing[1]["b"] = 9
        thing[2][0].append(9)
        self.assertEqual(copied, ([1], {"a": [2]}, [[3]]))

    def test_other_things_are_handed_on_as_they_are(self):
        thing = object()
        self.assertIs(own_copy([thing])[0], thing)


if __name__ == "__main__":
    unittest.main()
