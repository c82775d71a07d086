"""The bounds of point 3."""

import unittest

from putinside import limits
from putinside.rows import is_history, is_row, moves, outer_boxes


class LimitsTest(unittest.TestCase):
    def test_most_listed(self):
        self.assertEqual(limits.MOST_LISTED, 300)
        self.assertIs(type(limits.MOST_LISTED), int)

    def test_bounds_do_not_apply_to_thing(self):
        self.assertIs(is_row(tuple(range(1, 14))), True)
        self.assertIs(is_row(tuple(range(1, 2001))), True)
        self.assertIs(is_row((10 ** 9 + 1, 10 ** 5000)), True)
        self.assertIs(is_history(tuple(range(1, 101)), list(range(99))), True)
        self.assertIs(is_history((1, 2, 3), list(range(1000))), False)

    def test_no_error_somewhat_beyond_the_bounds(self):
        row = tuple(range(1, 71))
        self.assertEqual(moves(row, list(range(69))), [(k, k + 1) for k in range(69)])
        self.assertEqual(outer_boxes(row, list(range(69))), [(0, 69, 69)])
        self.assertEqual(outer_boxes((10 ** 9 + 2, 10 ** 9 + 1), [0]), [(0, 1, 0)])


if __name__ == "__main__":
    unittest.main()
