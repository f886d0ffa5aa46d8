"""The refusals: one base, ten right under it, and their fields."""

import inspect
import unittest

from roadnet import errors

REFUSALS = {
    "BadRoad": None,
    "BadPast": "turn",
    "Full": None,
    "BadThing": None,
    "NotNow": "state",
    "BadName": None,
    "BadMeasures": None,
    "BadLine": "at",
    "BadWish": "at",
    "NoRow": "at",
}


class TestErrors(unittest.TestCase):
    def test_the_base_is_a_value_error(self):
        self.assertEqual(errors.RoadError.__bases__, (ValueError,))

    def test_each_refusal_stands_right_under_the_base(self):
        for name in REFUSALS:
            with self.subTest(name=name):
                self.assertEqual(getattr(errors, name).__bases__, (errors.RoadError,))

    def test_these_are_all(self):
        classes = [name for name, thing in vars(errors).items() if inspect.isclass(thing)]
        self.assertEqual(sorted(classes), sorted(list(REFUSALS) + ["RoadError"]))

    def test_fields_are_set_when_made(self):
        for name, field in REFUSALS.items():
            for value in (0, -3, "shut"):
                if field is not None:
                    with self.subTest(name=name, value=value):
                        self.assertEqual(getattr(getattr(errors, name)(value), field), value)

    def test_each_is_taken_by_its_name_and_by_the_base(self):
        for name, field in REFUSALS.items():
            refusal = getattr(errors, name)
            made = refusal("words") if field is None else refusal(7)
            for taken in (refusal, errors.RoadError, ValueError):
                with self.subTest(name=name, taken=taken):
                    with self.assertRaises(taken):
                        raise made


if __name__ == "__main__":
    unittest.main()
