"""The examples of the document, with just their results or errors."""

import unittest

from numbertexts.decimals import compare, is_decimal, plain_decimal
from numbertexts.formats import code_of, count_of, format_error, is_format, told_format, value_of
from numbertexts.lines import rest_at, sum_of, sum_rows, sum_rows_hold, value_at
from numbertexts.ranges import is_read_as, range_of
from numbertexts.reading import around, is_way, position, read
from numbertexts.stairs import first_above, stair_at, sum_of_stair

WAYS = ('even', 'away', 'zero', 'out', 'odd')
T = (3, -2, 2)


class Examples(unittest.TestCase):
    def check(self, found, told):
        # The document gives the repr, by which True differs from 1.
        self.assertEqual(repr(found), told)

    def test_point_4(self):
        self.check(
            [value_at((3, 1, 4), 3), rest_at((3, 1, 4), 3), value_at((-3, -1, 4), 3), sum_of((3, 1, 4), 0, 8),
             sum_of((-3, -1, 4), 0, 4)],
            "[2, 2, -3, 20, -7]")

    def test_point_5(self):
        self.check(
            [sum_rows((3, 1, 4), 0, 8), sum_rows((3, 1, 4), 5, 5), sum_rows_hold((3, 1, 4), 0, 8, ((8, 3, 1, 4, 20),))],
            "[((8, 3, 1, 4, 20), (6, 4, 1, 3, 20), (2, 3, 1, 1, 5)), ((0, 3, 16, 4, 0),), False]")

    def test_point_9(self):
        S = ((1, 2, 8), (1, 5, 8))
        self.check(
            [[stair_at(S, x) for x in (2, 3, 6, 10)], sum_of_stair(S, 0, 8), first_above(S, ((1, 2, 4),), 0, 20),
             first_above(S, ((1, 2, 4),), 3, 10)],
            "[[0, 1, 2, 2], 7, 2, None]")

    def test_point_10(self):
        self.check(
            [is_format((3, -2, 2)), format_error((3, 2, -2)), format_error((0, 5, 1)), format_error([3, -2, 2]),
             told_format('binary16')],
            "[True, 'high', 'precision', 'format', (11, -24, 5)]")
        self.check(
            [count_of(T), value_of(T, 3), value_of(T, 9), code_of(T, 10, -2), code_of(T, 9, -2), code_of(T, 32, 0),
             code_of(T, 0, 7)],
            "[24, (3, -2), (5, -1), 9, None, None, 0]")

    def test_point_11(self):
        self.check(
            [is_decimal((5, 2500)), is_decimal((5, 2501)), is_decimal((True, 0)), plain_decimal((2500, -3)),
             plain_decimal((0, 7)), compare((25, -1), (250, -2)), compare((3, 0), (31, -1))],
            "[True, False, False, (25, -1), (0, 0), 0, -1]")

    def test_points_12_and_13(self):
        self.check(
            [is_way('odd'), is_way('up'), position(T, 9, 4), position(T, 1, 3), position(T, 14, 1), position(T, 40, 1)],
            "[True, False, (17, 2), (4, 3), (19, 1), (26, 1)]")
        self.check(
            [[read(T, way, (225, -2)) for way in WAYS], [read(T, way, (30, 0)) for way in WAYS]],
            "[[8, 9, 8, 9, 9], [24, 24, 23, 24, 23]]")
        self.check(
            [around(T, (225, -2)), around(T, (5, 0)), around(T, (40, 0)), around(T, (0, 3))],
            "[(8, 9), (13, 13), (23, 24), (0, 0)]")
        B64 = told_format('binary64')
        self.check(
            [read(B64, 'even', (1, 23)) == code_of(B64, 5960464477539062, 24),
             read(B64, 'away', (1, 23)) == code_of(B64, 5960464477539063, 24)],
            "[True, True]")

    def test_point_14(self):
        self.check(
            [range_of(T, 'even', 8), range_of(T, 'odd', 8), range_of(T, 'zero', 23), range_of(T, 'zero', 24),
             range_of(T, 'out', 0)],
            "[((15, -3), True, (9, -2), True), ((1, 1), True, (1, 1), True), ((7, 2), True, None, False), None, "
            "((0, 0), True, (0, 0), True)]")
        self.check(
            [is_read_as(T, 'even', 9, (225, -2)), is_read_as(T, 'away', 9, (225, -2)), is_read_as(T, 'even', 24, (30, 0))],
            "[False, True, True]")


if __name__ == "__main__":
    unittest.main()
