"""Stage 8: names, promises 8.1 to 8.4, and 0.2 where it speaks of them."""

import itertools
import random
import string
import unittest

from roadnet.errors import BadName, BadPast, RoadError
from roadnet.names import Book, Near, is_name
from tests.cases import PastCase

NAMES = ("a", "z", "ab", "zz", "abcdefgh", "stuvwxyz", "aaaaaaaa", "zzzzzzzz", "bind")
NO_NAMES = (
    "", "abcdefghi", "a" * 40, "A", "aB", "Z", "abcdefgH", "a1", "1", "9", "a b", " ", " a", "a ", "a-b", "a_b", "~",
    "`", "{", "a\n", "\n", "a\t", "\u00e4", "\u00df", "a\u0301", None, 0, 7, True, b"a", (), ("a",), ["a"], {"a": 1},
)


class TestIsName(unittest.TestCase):
    def test_names(self):
        for thing in NAMES + tuple(string.ascii_lowercase) + (string.ascii_lowercase[9:17],):
            with self.subTest(thing=thing):
                self.assertIs(is_name(thing), True)

    def test_what_is_none(self):
        for thing in NO_NAMES:
            with self.subTest(thing=thing):
                self.assertIs(is_name(thing), False)


class TestBook(PastCase):
    def test_never_told(self):
        book = Book()
        self.assertIsNone(book.told("a"))
        book.bind("b", 3, 0)
        self.assertIsNone(book.told("a"))

    def test_bind_and_free_give_none(self):
        book = Book()
        self.assertIsNone(book.bind("a", 1, 0))
        self.assertIsNone(book.free("a", 0))
        self.assertIsNone(book.free("b", 1))

    def test_bind(self):
        for name, hand in itertools.product(NAMES, (0, 1, 11)):
            book = Book()
            book.bind(name, hand, 4)
            self.assertEqual(book.told(name), hand)

    def test_a_name_is_taken_over(self):
        book = Book()
        for hand in (3, 5, 0, 3, 3):
            book.bind("a", hand, 2)
            self.assertEqual(book.told("a"), hand)

    def test_free(self):
        book = Book()
        book.bind("a", 0, 2)
        book.bind("b", 0, 2)
        book.free("a", 3)
        self.assertEqual((book.told("a"), book.told("b")), (None, 0))
        book.bind("a", 1, 4)
        self.assertEqual(book.told("a"), 1)

    def test_free_of_a_name_that_is_nobodys(self):
        book = Book()
        book.free("a", 1)
        self.assertIsNone(book.told("a"))
        book.bind("a", 1, 1)
        book.free("a", 2)
        book.free("a", 3)
        self.assertIsNone(book.told("a"))
        self.refused_past(3, book.bind, "a", 1, 2)

    def test_names_are_apart(self):
        book = Book()
        for hand, name in enumerate(NAMES):
            book.bind(name, hand, hand)
        self.assertEqual([book.told(name) for name in NAMES], list(range(len(NAMES))))

    def test_what_is_no_name(self):
        for thing in NO_NAMES:
            with self.subTest(thing=thing):
                book = Book()
                self.assertRaises(BadName, book.bind, thing, 1, 5)
                self.assertRaises(BadName, book.free, thing, 5)
                # The refused ones told no turn.
                self.assertIsNone(book.bind("a", 1, 0))

    def test_bad_name_goes_ahead_of_bad_past(self):
        book = Book()
        book.bind("a", 1, 5)
        for turn in (4, 5, 6):
            self.assertRaises(BadName, book.bind, "A", 2, turn)
            self.assertRaises(BadName, book.free, "", turn)
        self.refused_past(5, book.bind, "a", 2, 4)

    def test_a_turn_below_one_told_before(self):
        for first, second in itertools.product(("a", "b"), repeat=2):
            book = Book()
            book.bind(first, 1, 5)
            self.refused_past(5, book.bind, second, 2, 4)
            self.refused_past(5, book.free, second, 0)
            book.free(second, 9)
            self.refused_past(9, book.bind, first, 2, 8)
            self.refused_past(9, book.free, first, 5)

    def test_below_turn_0(self):
        book = Book()
        book.free("a", 0)
        self.refused_past(0, book.bind, "a", 2, -1)
        self.refused_past(0, book.free, "b", -1)

    def test_the_same_turn_again_is_let_by(self):
        for turn in (0, 7):
            book = Book()
            for hand in range(4):
                self.assertIsNone(book.bind("a", hand, turn))
                self.assertIsNone(book.free("b", turn))
            self.assertEqual(book.told("a"), 3)

    def test_what_is_refused_changes_nothing(self):
        book = Book()
        book.bind("a", 1, 5)
        for deed in (lambda: book.bind("a", 2, 4), lambda: book.free("a", 4), lambda: book.bind("A", 2, 9)):
            self.assertRaises((BadPast, BadName), deed)
            self.assertEqual(book.told("a"), 1)
            self.assertIs(book.had("a", 2, 0, 99), False)
            self.assertIs(book.had("a", 1, 0, 4), False)
            self.assertIs(book.had("a", 1, 99, 99), True)
        self.assertIsNone(book.bind("a", 2, 5))

    def test_the_refusals_stand_right_under_the_base(self):
        self.assertEqual((BadName.__bases__, BadPast.__bases__), ((RoadError,), (RoadError,)))

    def test_books_share_nothing(self):
        Book().bind("a", 1, 5)
        book = Book()
        self.assertIsNone(book.told("a"))
        self.assertIsNone(book.bind("a", 2, 0))


class TestHad(unittest.TestCase):
    def has(self, book, name, hand, turns):
        """The hand had the name at just these of the turns 0 to 20, asked one by one."""
        self.assertEqual([turn for turn in range(21) if book.had(name, hand, turn, turn)], list(turns))

    def test_never_bound(self):
        book = Book()
        self.assertIs(book.had("a", 0, 0, 99), False)
        book.bind("b", 0, 3)
        self.assertIs(book.had("a", 0, 0, 99), False)
        book.free("a", 3)
        self.assertIs(book.had("a", 0, 0, 99), False)

    def test_from_the_turn_on(self):
        book = Book()
        book.bind("a", 2, 5)
        self.has(book, "a", 2, range(5, 21))
        self.has(book, "a", 1, [])
        self.assertIs(book.had("a", 2, 10 ** 6, 10 ** 6), True)

    def test_bound_at_0_to_hand_0(self):
        book = Book()
        book.bind("a", 0, 0)
        self.has(book, "a", 0, range(21))
        book.free("a", 0)
        self.has(book, "a", 0, [0])

    def test_a_turn_counts_for_ahead_and_behind(self):
        book = Book()
        book.bind("a", 2, 5)
        book.bind("a", 3, 9)
        book.free("a", 12)
        book.bind("a", 2, 15)
        self.has(book, "a", 2, [5, 6, 7, 8, 9, 15, 16, 17, 18, 19, 20])
        self.has(book, "a", 3, [9, 10, 11, 12])

    def test_several_deeds_in_one_turn(self):
        book = Book()
        book.bind("a", 1, 4)
        for hand in (2, 3):
            book.bind("a", hand, 8)
        book.free("a", 8)
        book.bind("a", 4, 8)
        book.free("a", 8)
        book.bind("a", 5, 8)
        self.has(book, "a", 1, range(4, 9))
        for hand in (2, 3, 4):
            self.has(book, "a", hand, [8])
        self.has(book, "a", 5, range(8, 21))
        self.has(book, "a", 6, [])

    def test_first_and_last_are_both_among_them(self):
        book = Book()
        book.bind("a", 1, 5)
        book.free("a", 9)
        for first, last, told in (
            (0, 4, False), (0, 5, True), (5, 5, True), (4, 4, False), (6, 8, True), (0, 20, True), (9, 9, True),
            (9, 20, True), (10, 10, False), (10, 20, False), (8, 12, True), (3, 6, True),
        ):
            with self.subTest(first=first, last=last):
                self.assertIs(book.had("a", 1, first, last), told)

    def test_no_turns(self):
        book = Book()
        book.bind("a", 1, 5)
        self.assertIs(book.had("a", 1, 8, 7), False)

    def test_deeds_of_other_names_are_no_matter(self):
        book = Book()
        book.bind("a", 1, 5)
        book.bind("b", 2, 7)
        book.free("c", 8)
        self.has(book, "a", 1, range(5, 21))
        self.has(book, "b", 2, range(7, 21))

    def test_turn_by_turn_of_many_books(self):
        for seed in range(40):
            chance = random.Random(seed)
            book, whose = Book(), {}
            for name in ("a", "b"):
                whose[name] = [set() for _ in range(21)]
            owners = {"a": None, "b": None}
            for turn in range(21):
                for name in owners:
                    whose[name][turn].add(owners[name])
                for _ in range(chance.choice([0, 0, 0, 1, 2, 3])):
                    name = chance.choice("ab")
                    owners[name] = chance.choice([None, 0, 1, 2])
                    if owners[name] is None:
                        book.free(name, turn)
                    else:
                        book.bind(name, owners[name], turn)
                    whose[name][turn].add(owners[name])
                self.assertEqual([book.told(name) for name in "ab"], [owners[name] for name in "ab"])
            self.look_at(book, whose)

    def look_at(self, book, whose):
        for name, hand, first in itertools.product("ab", range(4), range(21)):
            for last in range(first, 21):
                wanted = any(hand in at_turn for at_turn in whose[name][first:last + 1])
                self.assertIs(book.had(name, hand, first, last), wanted)


class TestNear(unittest.TestCase):
    def test_none_is_kept_at_first(self):
        near = Near(5)
        self.assertIsNone(near.find("a", 0))
        self.assertEqual(near.thin(0), 0)

    def test_put_gives_none(self):
        near = Near(5)
        for values in (("a", 1, 3), ("a", 1, 3), ("a", 2, 4), ("a", None, 5), ("b", 0, 0)):
            self.assertIsNone(near.put(*values))

    def test_found_up_to_keep_turns_on(self):
        for keep, asked, hand in itertools.product((0, 1, 7, 10000), (0, 3), (0, 4)):
            with self.subTest(keep=keep, asked=asked, hand=hand):
                near = Near(keep)
                near.put("a", hand, asked)
                for turn in (asked, asked + keep // 2, asked + keep):
                    self.assertEqual(near.find("a", turn), hand)
                for turn in (asked + keep + 1, asked + keep + 2, 10 ** 6):
                    self.assertIsNone(near.find("a", turn))
                # To be asked too late drops nothing.
                self.assertEqual(near.find("a", asked + keep), hand)

    def test_another_name_is_not_found(self):
        near = Near(5)
        near.put("a", 1, 3)
        self.assertIsNone(near.find("b", 3))

    def test_an_answer_of_none(self):
        near = Near(5)
        near.put("a", None, 3)
        self.assertIsNone(near.find("a", 3))
        self.assertEqual(near.thin(3), 1)

    def test_a_greater_asked_turn_takes_the_place(self):
        for hand in (0, 2, None):
            near = Near(5)
            near.put("a", 1, 3)
            near.put("a", hand, 4)
            self.assertEqual(near.find("a", 4), hand)
            self.assertEqual(near.find("a", 9), hand)
            self.assertEqual(near.thin(4), 1)

    def test_an_equal_or_lesser_one_does_not(self):
        for asked, first, second in itertools.product((3, 2, 0), (0, 1, None), (0, 2, None)):
            near = Near(5)
            near.put("a", first, 3)
            near.put("a", second, asked)
            self.assertEqual(near.find("a", 8), first)
            self.assertIsNone(near.find("a", 9))

    def test_one_that_is_too_old_to_be_found_still_stands_against_lesser_ones(self):
        near = Near(0)
        near.put("a", 1, 3)
        self.assertIsNone(near.find("a", 4))
        near.put("a", 2, 2)
        self.assertIsNone(near.find("a", 2 + 2))
        self.assertEqual(near.find("a", 3), 1)

    def test_thin_drops_those_more_than_keep_ago(self):
        near = Near(4)
        for name, asked in (("a", 0), ("b", 1), ("c", 2), ("d", 2), ("e", 9)):
            near.put(name, None if name == "d" else 7, asked)
        self.assertEqual([near.thin(turn) for turn in (0, 4, 5, 6, 7, 13, 14, 99)], [5, 5, 4, 3, 1, 1, 0, 0])

    def test_what_thin_drops_is_kept_no_more(self):
        near = Near(4)
        near.put("a", 1, 3)
        self.assertEqual(near.thin(7), 1)
        self.assertEqual(near.find("a", 7), 1)
        self.assertEqual(near.thin(8), 0)
        self.assertIsNone(near.find("a", 7))
        near.put("a", 2, 2)
        self.assertEqual(near.find("a", 6), 2)

    def test_keep_of_0(self):
        near = Near(0)
        near.put("a", 1, 3)
        self.assertEqual((near.find("a", 3), near.find("a", 4)), (1, None))
        self.assertEqual((near.thin(3), near.thin(4)), (1, 0))

    def test_nears_share_nothing(self):
        Near(5).put("a", 1, 0)
        self.assertIsNone(Near(5).find("a", 0))


class TestSo(unittest.TestCase):
    """Questions and answers lost, come again, late and in any order."""

    def test_who_is_found_had_the_name(self):
        found = [self.go(random.Random(seed), keep) for seed, keep in itertools.product(range(60), (0, 1, 4, 30))]
        self.assertGreater(sum(found), 1000)

    def go(self, chance, keep):
        book, near = Book(), Near(keep)
        owner, whose = None, []
        questions, answers = [], []
        found = 0
        for turn in range(80):
            whose.append({owner})
            if chance.random() < 0.3:
                owner = chance.choice([None, 0, 1, 2])
                if owner is None:
                    book.free("a", turn)
                else:
                    book.bind("a", owner, turn)
                whose[turn].add(owner)
            questions.append(turn)
            for asked in [chance.choice(questions), questions[-1]]:
                if chance.random() < 0.5:
                    answers.append((book.told("a"), asked))
            for hand, asked in chance.sample(answers[-4:], min(2, len(answers))) + answers[:1]:
                if chance.random() < 0.7:
                    near.put("a", hand, asked)
            if chance.random() < 0.2:
                near.thin(turn)
            found += self.look_at(near, book, whose, turn, keep)
        return found

    def look_at(self, near, book, whose, turn, keep):
        hand = near.find("a", turn)
        if hand is None:
            return 0
        first = max(0, turn - keep)
        self.assertTrue(any(hand in at_turn for at_turn in whose[first:]))
        self.assertIs(book.had("a", hand, first, turn), True)
        return 1


if __name__ == "__main__":
    unittest.main()
