"""Stage 9: the measures, promise 9.1, and 0.2 where it speaks of them."""

import unittest

from roadnet.errors import BadMeasures, RoadError
from roadnet.measures import Measures

# In their order: the field, the least and the greatest.
BOUNDS = (
    ("hands", 2, 12), ("lag", 1, 32), ("miss", 1, 400), ("raise_each", 1, 1000), ("count", 0, 60),
    ("room", 1, 16), ("places", 1, 16), ("window", 1, 60), ("wait", 1, 10000), ("keep", 0, 10000),
)
NUMBERS = [4, 5, 6, 7, 8, 9, 10, 11, 12, 13]


def with_one(place, thing):
    return NUMBERS[:place] + [thing] + NUMBERS[place + 1:]


class TestMeasures(unittest.TestCase):
    def test_fields_and_numbers(self):
        measures = Measures(*NUMBERS)
        self.assertEqual([getattr(measures, bound[0]) for bound in BOUNDS], NUMBERS)
        self.assertEqual(measures.numbers(), NUMBERS)

    def test_arguments_by_their_names(self):
        named = {bound[0]: number for bound, number in zip(BOUNDS, NUMBERS)}
        self.assertEqual(Measures(**named).numbers(), NUMBERS)

    def test_each_at_its_least_and_its_greatest(self):
        for place, (field, least, most) in enumerate(BOUNDS):
            for number in (least, most):
                with self.subTest(field=field, number=number):
                    measures = Measures(*with_one(place, number))
                    self.assertEqual(getattr(measures, field), number)
                    self.assertEqual(measures.numbers(), with_one(place, number))

    def test_all_at_their_least_and_their_greatest(self):
        for place in (1, 2):
            numbers = [bound[place] for bound in BOUNDS]
            self.assertEqual(Measures(*numbers).numbers(), numbers)

    def test_one_below_and_one_above(self):
        for place, (field, least, most) in enumerate(BOUNDS):
            for number in (least - 1, most + 1, -5, 10 ** 9):
                with self.subTest(field=field, number=number):
                    self.assertRaises(BadMeasures, Measures, *with_one(place, number))

    def test_what_is_no_whole_number(self):
        for place, bound in enumerate(BOUNDS):
            for thing in (True, False, "5", "", None, 5.0, (5,), [5]):
                with self.subTest(field=bound[0], thing=thing):
                    self.assertRaises(BadMeasures, Measures, *with_one(place, thing))

    def test_numbers_is_a_new_list_each_time(self):
        measures = Measures(*NUMBERS)
        told = measures.numbers()
        self.assertIsInstance(told, list)
        told.append(1)
        told[0] = 9
        self.assertEqual(measures.numbers(), NUMBERS)
        self.assertEqual(measures.hands, 4)

    def test_the_refusal_stands_right_under_the_base(self):
        self.assertEqual(BadMeasures.__bases__, (RoadError,))


if __name__ == "__main__":
    unittest.main()
