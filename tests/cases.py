"""What several test files need."""

import unittest

from roadnet.errors import BadPast


class PastCase(unittest.TestCase):
    def refused_past(self, last, deed, *values):
        with self.assertRaises(BadPast) as caught:
            deed(*values)
        self.assertEqual(caught.exception.turn, last)
