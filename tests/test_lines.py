import copy
import math
import unittest

from numbertexts.lines import rest_at, sum_of, sum_rows, sum_rows_hold, value_at
from slow_ways import any_values

FAR = 10 ** 60 - 1
GREAT = 10 ** 300 - 1
GREAT_LINES = (
    (GREAT, GREAT, GREAT), (-GREAT, GREAT, GREAT - 2), (GREAT - 1, -GREAT, 1), (3 ** 628, -5 ** 429, 7 ** 354),
    (-3 ** 628, 5 ** 429, 3 ** 627 + 2), (2 ** 990, 2 ** 980 + 1, 3 ** 625), (0, -GREAT, 2), (0, 0, 1), (1, 0, GREAT),
)
LONG_RANGES = (
    (-FAR, FAR), (0, FAR), (-FAR, 0), (10 ** 59, FAR), (-FAR, 17 - FAR), (FAR - 40, FAR), (-5, 10 ** 30),
)


def small_lines():
    for a in (-13, -4, -3, -1, 0, 1, 2, 5, 7, 12):
        for b in (-29, -5, -1, 0, 1, 3, 8, 30):
            for c in (1, 2, 3, 4, 7, 12):
                yield a, b, c


def slow_sum(line, low, high):
    return sum(value_at(line, x) for x in range(low, high))


class Values(unittest.TestCase):
    def test_value_and_rest_are_the_quotient_rounded_down_and_what_is_left(self):
        for line in (*small_lines(), *GREAT_LINES):
            a, b, c = line
            for x in (-FAR, -100, -7, -1, 0, 1, 2, 9, 100, FAR):
                value, rest = value_at(line, x), rest_at(line, x)
                self.assertTrue(0 <= rest < c, (line, x))
                self.assertEqual(value * c + rest, a * x + b, (line, x))

    def test_below_zero_the_value_goes_down(self):
        self.assertEqual([value_at((1, 0, 2), x) for x in (-3, -2, -1, 0, 1)], [-2, -1, -1, 0, 0])
        self.assertEqual([rest_at((1, 0, 2), x) for x in (-3, -2, -1, 0, 1)], [1, 0, 1, 0, 1])
        self.assertEqual([value_at((-1, 0, 3), 1), rest_at((-1, 0, 3), 1)], [-1, 2])


class Sums(unittest.TestCase):
    def test_short_ranges_against_plain_addition(self):
        for line in small_lines():
            for low in (-17, -3, 0, 4):
                for many in (1, 2, 3, 4, 5, 6, 11, 25):
                    self.assertEqual(sum_of(line, low, low + many), slow_sum(line, low, low + many), (line, low, many))

    def test_great_lines_against_plain_addition(self):
        for line in GREAT_LINES:
            for low in (-FAR, -20, 0, FAR - 30):
                self.assertEqual(sum_of(line, low, low + 30), slow_sum(line, low, low + 30), (line, low))

    def test_an_empty_range_has_the_sum_zero(self):
        for line in ((3, 1, 4), (-3, 7, 1), GREAT_LINES[3]):
            for low, high in ((5, 5), (5, 4), (0, -9), (FAR, -FAR), (-3, -3)):
                self.assertEqual(sum_of(line, low, high), 0)

    def test_long_ranges_against_their_parts(self):
        for line in (*GREAT_LINES, (7, 3, 10), (-7, 3, 10), (10 ** 59 + 7, 1, 10 ** 60 + 9)):
            for low, high in LONG_RANGES:
                places = [low, low + (high - low) // 3, low + (high - low) // 2 + 1, high - 7, high]
                parts = [sum_of(line, places[k], places[k + 1]) for k in range(4)]
                self.assertEqual(sum_of(line, low, high), sum(parts), (line, low, high))
                self.assertEqual(sum_of(line, low, high) + value_at(line, high), sum_of(line, low, high + 1))

    def test_whole_turns_against_the_closed_form(self):
        # Over c numbers in a row, with a and c prime to each other, each rest occurs just once.
        for a, b, c in ((7, 3, 10), (3 ** 90, -5, 10 ** 40), (-7 ** 50, 12, 2 ** 190 + 1), (10 ** 250 + 1, 9, 10 ** 58)):
            self.assertEqual(math.gcd(a, c), 1)
            self.assertEqual(sum_of((a, b, c), 0, c), (a - 1) * (c - 1) // 2 + b)

    def test_lines_without_rests_against_the_closed_form(self):
        for n in (5, 1000, FAR):
            self.assertEqual(sum_of((1, 0, 1), 0, n), n * (n - 1) // 2)
            self.assertEqual(sum_of((-3, 2, 1), 0, n), -3 * (n * (n - 1) // 2) + 2 * n)


class SumRows(unittest.TestCase):
    def check_rows(self, line, low, high, is_short):
        a, b, c = line
        rows = sum_rows(line, low, high)
        self.assertIs(type(rows), tuple)
        self.assertEqual(rows[0][:4], (max(high - low, 0), a, b + a * low, c))
        for k, row in enumerate(rows):
            self.assertIs(type(row), tuple)
            n, a, b, c, total = row
            self.assertEqual(total, slow_sum((a, b, c), 0, n) if is_short else sum_of((a, b, c), 0, n))
            reached = (a % c) * n + b % c
            m = reached // c
            is_last = n <= 4 or m == 0
            self.assertEqual(is_last, k == len(rows) - 1, (line, low, high))
            if not is_last:
                self.assertEqual(rows[k + 1][:4], (m, c, reached % c, a % c))
                own = (a // c) * n * (n - 1) // 2 + (b // c) * n
                self.assertEqual(total, own + rows[k + 1][4])

    def test_short_ranges_by_the_words_of_the_point(self):
        for line in small_lines():
            for low in (-6, 0, 3):
                for many in (-2, 0, 1, 3, 4, 5, 6, 9, 24):
                    self.check_rows(line, low, low + many, True)

    def test_long_ranges_by_the_words_of_the_point(self):
        for line in GREAT_LINES:
            for low, high in LONG_RANGES:
                self.check_rows(line, low, high, False)

    def test_the_last_row_is_where_n_is_at_most_four_or_m_is_zero(self):
        self.assertEqual(sum_rows((3, 1, 4), 0, 4), ((4, 3, 1, 4, 4),))
        self.assertEqual(sum_rows((3, 1, 4), 0, 5), ((5, 3, 1, 4, 7), (4, 4, 0, 3, 7)))
        self.assertEqual(sum_rows((1, 0, 100), 0, 50), ((50, 1, 0, 100, 0),))
        self.assertEqual(sum_rows((2, 3, 1), 0, 10), ((10, 2, 3, 1, 120),))

    def test_empty_ranges(self):
        self.assertEqual(sum_rows((3, 1, 4), 5, 5), ((0, 3, 16, 4, 0),))
        self.assertEqual(sum_rows((3, 1, 4), 5, 2), ((0, 3, 16, 4, 0),))
        self.assertEqual(sum_rows((-3, 1, 4), -5, -9), ((0, -3, 16, 4, 0),))


class SumRowsHold(unittest.TestCase):
    def test_the_sum_rows_hold(self):
        for line in ((3, 1, 4), (-7, 2, 5), (1, 0, 1), GREAT_LINES[3]):
            for low, high in ((0, 8), (5, 5), (9, 2), (-4, 4), (-FAR, FAR)):
                self.assertIs(sum_rows_hold(line, low, high, sum_rows(line, low, high)), True)

    def test_one_changed_number_does_not_hold(self):
        for line, low, high in (((3, 1, 4), 0, 8), (GREAT_LINES[3], -FAR, FAR)):
            rows = sum_rows(line, low, high)
            for k, row in enumerate(rows):
                for place in range(5):
                    for change in (-1, 1):
                        item = (*row[:place], row[place] + change, *row[place + 1:])
                        self.assertIs(sum_rows_hold(line, low, high, (*rows[:k], item, *rows[k + 1:])), False)

    def test_true_and_false_are_no_numbers(self):
        seen = 0
        for line, low, high in (((3, 1, 4), 0, 8), ((1, 0, 1), 0, 1), ((1, 0, 1), 0, 2), ((0, 1, 1), 3, 3)):
            rows = sum_rows(line, low, high)
            for k, row in enumerate(rows):
                for place in range(5):
                    if row[place] in (0, 1):
                        seen += 1
                        item = (*row[:place], row[place] == 1, *row[place + 1:])
                        self.assertEqual(item, row)
                        self.assertIs(sum_rows_hold(line, low, high, (*rows[:k], item, *rows[k + 1:])), False)
        self.assertGreater(seen, 9)

    def test_other_rows_do_not_hold(self):
        rows = sum_rows((3, 1, 4), 0, 8)
        wrong = [rows[:k] + rows[k + 1:] for k in range(3)] + [rows[:k] + rows[k:k + 1] + rows[k:] for k in range(3)]
        wrong += [list(rows), tuple(list(row) for row in rows), (*rows[:2], list(rows[2])), rows[::-1], (rows,), rows[0]]
        wrong += [tuple(row[:4] for row in rows), tuple((*row, 0) for row in rows), (*rows, ()), (*rows, None)]
        for value in (*wrong, *any_values()):
            kept = copy.deepcopy(value)
            self.assertIs(sum_rows_hold((3, 1, 4), 0, 8, value), False, value)
            self.assertEqual(value, kept)

    def test_the_rows_of_another_line_or_range_do_not_hold(self):
        rows = sum_rows((3, 1, 4), 0, 8)
        self.assertIs(sum_rows_hold((3, 1, 4), 0, 9, rows), False)
        self.assertIs(sum_rows_hold((3, 2, 4), 0, 8, rows), False)
        self.assertIs(sum_rows_hold((3, -2, 4), 1, 9, rows), True)


if __name__ == "__main__":
    unittest.main()
