"""Stage 2: who is there, promises 2.1 to 2.3."""

import unittest

from roadnet.errors import BadMeasures
from roadnet.roads import Road, fairness
from roadnet.watch import Watch
from tests.cases import PastCase


class TestMaking(PastCase):
    def test_good_ones(self):
        for miss in (1, 2, 399, 400):
            Watch(miss)

    def test_bad_ones(self):
        for miss in (0, -1, 401, 10 ** 9, True, False, None, 5.0, "5", (5,), [5]):
            with self.subTest(miss=miss):
                self.assertRaises(BadMeasures, Watch, miss)


class TestHearing(PastCase):
    def told(self, stamps):
        watch = Watch(3)
        return [watch.heard(turn, stamp) for turn, stamp in enumerate(stamps)]

    def test_newer_than_all_ahead(self):
        self.assertEqual(self.told([5, 6, 6, 3, 7, 6, 100]), [True, True, False, False, True, False, True])

    def test_the_first_is_newer_whatever_its_stamp(self):
        for stamp in (0, 1, -1, -10 ** 9, 10 ** 9):
            with self.subTest(stamp=stamp):
                self.assertEqual(self.told([stamp, stamp]), [True, False])

    def test_stamps_below_0(self):
        self.assertEqual(self.told([-5, -6, -5, -4, 0, -1]), [True, False, False, True, True, False])

    def test_an_old_one_does_not_lower_the_greatest(self):
        self.assertEqual(self.told([9, 2, 5, 9, 10]), [True, False, False, False, True])

    def test_the_answers_are_truths(self):
        for answer, wanted in zip(self.told([4, 4, 5]), [True, False, True]):
            self.assertIs(answer, wanted)

    def test_several_in_one_turn(self):
        watch = Watch(1)
        self.assertEqual([watch.heard(4, stamp) for stamp in (3, 1, 4)], [True, False, True])

    def test_a_lesser_turn_is_refused(self):
        watch = Watch(2)
        watch.heard(5, 1)
        for turn in (4, 0, -1):
            with self.subTest(turn=turn):
                self.refused_past(5, watch.heard, turn, 2)

    def test_turn_0_is_a_last_turn_too(self):
        watch = Watch(2)
        watch.heard(0, 1)
        self.refused_past(0, watch.heard, -1, 2)

    def test_what_is_refused_is_not_heard(self):
        watch = Watch(2)
        watch.heard(5, 1)
        self.refused_past(5, watch.heard, 4, 9)
        self.assertIs(watch.heard(5, 2), True)
        self.refused_past(5, watch.heard, 3, 99)
        self.refused_past(5, watch.heard, 4, 99)
        self.assertIs(watch.is_there(7), True)
        self.assertIs(watch.is_there(8), False)


class TestThere(PastCase):
    def test_not_there_as_long_as_nothing_was_heard(self):
        watch = Watch(400)
        for turn in (0, 1, -5, 399, 10 ** 9, 0):
            self.assertIs(watch.is_there(turn), False)

    def test_up_to_miss_turns_behind_the_last_hearing(self):
        for miss in (1, 2, 17, 400):
            watch = Watch(miss)
            watch.heard(3, 0)
            with self.subTest(miss=miss):
                self.assertIs(watch.is_there(3), True)
                self.assertIs(watch.is_there(3 + miss), True)
                self.assertIs(watch.is_there(3 + miss + 1), False)
                self.assertIs(watch.is_there(10 ** 9), False)

    def test_an_old_letter_is_heard_likewise(self):
        watch = Watch(2)
        watch.heard(0, 9)
        self.assertIs(watch.heard(5, 3), False)
        self.assertIs(watch.is_there(7), True)
        self.assertIs(watch.is_there(8), False)

    def test_there_again(self):
        watch = Watch(1)
        watch.heard(0, 0)
        self.assertIs(watch.is_there(2), False)
        watch.heard(2, 1)
        self.assertIs(watch.is_there(2), True)

    def test_a_turn_ahead_of_the_last_told_is_refused(self):
        watch = Watch(4)
        watch.heard(2, 0)
        watch.heard(6, 1)
        for turn in (5, 2, 0, -1):
            with self.subTest(turn=turn):
                self.refused_past(6, watch.is_there, turn)
        self.assertIs(watch.is_there(6), True)

    def test_asking_tells_no_turn(self):
        watch = Watch(4)
        watch.is_there(50)
        self.assertIs(watch.heard(3, 0), True)
        self.assertIs(watch.is_there(1000), False)
        self.assertIs(watch.is_there(4), True)
        self.assertIs(watch.heard(4, 1), True)
        self.refused_past(4, watch.is_there, 3)


class TestSo(PastCase):
    roads = (
        ([], 1),
        ([], 4),
        ([(4,)], 4),
        ([(), (1,)], 4),
        ([(4,), (), (), (1,)], 4),
        ([(), (2, 1), (), (), (4, 4, 4), ()], 4),
        ([(4,)] + [()] * 7 + [(1,)], 4),
        ([()] * 59 + [(32,)], 32),
    )

    def there(self, deeds, lag, miss, last, turns):
        road = Road(deeds, lag)
        watch = Watch(miss)
        answers = []
        for turn in range(turns):
            for stamp in road.come(turn):
                watch.heard(turn, stamp)
            answers.append(watch.is_there(turn))
            if turn <= last:
                road.send(turn, turn)
        return answers

    def test_who_sends_in_each_turn_is_there(self):
        for deeds, lag in self.roads:
            start = fairness(deeds) + lag - 1
            for miss in (max(start - 1, 1), start, 400):
                with self.subTest(deeds=deeds, lag=lag, miss=miss):
                    answers = self.there(deeds, lag, miss, 300, 300)
                    self.assertTrue(all(answers[start:]))

    def test_who_sent_the_last_is_not_there_for_ever(self):
        for deeds, lag in self.roads:
            for miss in (1, fairness(deeds) + lag, 150):
                for last in (0, 1, 7, 60):
                    with self.subTest(deeds=deeds, lag=lag, miss=miss, last=last):
                        answers = self.there(deeds, lag, miss, last, 300)
                        self.assertFalse(any(answers[last + lag + miss + 1:]))

    def test_both_bounds_are_met(self):
        deeds = [(4,)] + [()] * 7 + [(1,)]
        answers = self.there(deeds, 4, 3, 9, 30)
        self.assertEqual([turn for turn in range(30) if answers[turn]], [4, 5, 6, 7, 9, 10, 11, 12, 13, 14, 15, 16])

    def test_one_turn_less_of_miss_is_too_little(self):
        deeds = [(1,)] + [()] * 2 + [(4,)] * 4
        start = fairness(deeds) + 4 - 1
        self.assertTrue(all(self.there(deeds, 4, start - 1, 300, 300)[start:]))
        self.assertFalse(all(self.there(deeds, 4, start - 2, 300, 300)[start:]))


if __name__ == "__main__":
    unittest.main()
