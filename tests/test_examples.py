"""The examples of the document, with just their results or errors."""

import unittest

from numbertexts.formats import code_of, count_of, format_error, is_format, told_format, value_of
from numbertexts.lines import rest_at, sum_of, sum_rows, sum_rows_hold, value_at

T = (3, -2, 2)


class Examples(unittest.TestCase):
    def check(self, found, told):
        # The document gives the repr, by which True differs from 1.
        self.assertEqual(repr(found), told)

    def test_point_4(self):
        self.check(
            [value_at((3, 1, 4), 3), rest_at((3, 1, 4), 3), value_at((-3, -1, 4), 3), sum_of((3, 1, 4), 0, 8),
             sum_of((-3, -1, 4), 0, 4)],
            "[2, 2, -3, 20, -7]")

    def test_point_5(self):
        self.check(
            [sum_rows((3, 1, 4), 0, 8), sum_rows((3, 1, 4), 5, 5), sum_rows_hold((3, 1, 4), 0, 8, ((8, 3, 1, 4, 20),))],
            "[((8, 3, 1, 4, 20), (6, 4, 1, 3, 20), (2, 3, 1, 1, 5)), ((0, 3, 16, 4, 0),), False]")

    def test_point_10(self):
        self.check(
            [is_format((3, -2, 2)), format_error((3, 2, -2)), format_error((0, 5, 1)), format_error([3, -2, 2]),
             told_format('binary16')],
            "[True, 'high', 'precision', 'format', (11, -24, 5)]")
        self.check(
            [count_of(T), value_of(T, 3), value_of(T, 9), code_of(T, 10, -2), code_of(T, 9, -2), code_of(T, 32, 0),
             code_of(T, 0, 7)],
            "[24, (3, -2), (5, -1), 9, None, None, 0]")


if __name__ == "__main__":
    unittest.main()
